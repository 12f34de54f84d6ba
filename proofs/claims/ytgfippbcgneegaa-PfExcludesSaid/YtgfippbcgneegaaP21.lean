import Derived.Laws.AppendOwnNone
import Derived.Deep.OwnRows
import Derived.Test.YtgfippbcgneegaaP1
import Derived.Test.YtgfippbcgneegaaP20
import Derived.Test.YtgfippbcgneegaaP2
import Derived.Test.YtgfippbcgneegaaP17
import Derived.Test.YtgfippbcgneegaaP18
import Derived.Test.YtgfippbcgneegaaP11
set_option linter.unusedVariables false
set_option linter.unusedSimpArgs false
namespace Go.Proofs.Ytgfippbcgneegaa
open Go.RowKit
def FirstW (xs : List Int) (S : Nat) (w : World) (e : Ending) (w' : World) : Prop :=
  ∃ g, e = .returned (.tuple #[.slice (some ⟨g, 0, none⟩) S S, .int .i64 0]) ∧ w.heap.size ≤ g ∧ Held w' (some ⟨g, 0, none⟩) S S xs ∧ Only Nil w w'
end Go.Proofs.Ytgfippbcgneegaa
set_option linter.unusedVariables false
set_option linter.unusedSimpArgs false
namespace Go.Proofs.Ytgfippbcgneegaa
open Go.RowKit
theorem words_pf (k : Nat) (b : Int) : words 2 (8 + 4 * k) 5 b = (T5.at b).xs k := by
  show words 2 (8 + 4 * k) 5 b = os5 (b * 256 % 4294967296) (b * 256 % 4294967296) b b b ++ List.replicate (4 * k) 0
  apply List.ext_getElem
  · simp [words, os5]
    omega
  · intro i h1 h2
    by_cases hi : i < 8
    · rw [List.getElem_append_left (by simpa [os5] using hi)]
      match i, hi with
      | 0, _ => simp [words, wordI, os5]
      | 1, _ => simp [words, wordI, os5]
      | 2, _ => simp [words, wordI, os5]
      | 3, _ => simp [words, wordI, os5]
      | 4, _ => simp [words, wordI, os5]
      | 5, _ => simp [words, wordI, os5]
      | 6, _ => simp [words, wordI, os5]
      | 7, _ => simp [words, wordI, os5]
    · rw [List.getElem_append_right (by simpa [os5] using hi)]
      simp only [List.getElem_replicate]
      simp [words, wordI]
      omega
theorem first_pf (k : Nat) (b : Int) (w : World) (hk : 1 ≤ k ∧ k ≤ 64) (hb : 0 ≤ b ∧ b < 4294967296) :
    Calls Try.prog 8 #[.int .i64 2, .int .i64 k, .int .u32 b] w (FirstW ((T5.at b).xs k) (8 + 4 * k) w) := by
  have hS : sizeI (k : Int) = ((8 + 4 * k : Nat) : Int) := by unfold sizeI; rw [if_pos (by omega)]; push_cast; rfl
  refine (first_yes 2 k b (8 + 4 * k) w (by omega) (by omega) hS hb).mono ?_
  rintro e w' ⟨g, rfl, hg, hR, hO⟩
  rw [show (ownV 2).size = 5 from rfl, words_pf] at hR
  have hI := Row.ints (k := .u32) (xs := (T5.at b).xs k) hR
  exact ⟨g, rfl, hg, ⟨by simp [T5.xs, clean, os5]; omega, (by intro h; cases h), hI⟩, hO⟩
end Go.Proofs.Ytgfippbcgneegaa
set_option linter.unusedVariables false
set_option linter.unusedSimpArgs false
namespace Go.Proofs.Ytgfippbcgneegaa
open Go.RowKit
theorem flat_cells : ∀ (zs : List Nt) (u : Value), u ∈ flat zs → u.oneCell' = true
  | [], u, h => by simp [flat] at h
  | n :: r, u, h => by
    rw [flat, List.mem_append] at h
    rcases h with h | h
    · unfold flat1 at h
      simp only [List.mem_cons, List.not_mem_nil, or_false] at h
      rcases h with rfl | rfl | rfl | rfl <;> rfl
    · exact flat_cells r u h
theorem wp_appNs {w : World} {ops : Array Oper} {rest : List Oper} {o : Oper} {a : Act} {Q : Exit → Act → World → Prop} (hgd : o.guard = none) (s x : Operand)
    (ho : o.op = .call { callee := .builtin .append, args := #[s, x], argTypes := #[32, 32] })
    (base : Nat) (v : Value) (zs : List Nt) (hs : a.eval s = v) (hown : OwnN base w v zs)
    (u : Value) (ys : List Nt) (hx : a.eval x = u) (hu : OwnN 0 w u ys)
    (h1 : zs.length ≤ 4000) (h2 : ys.length ≤ 1000) (hbase : base ≤ w.heap.size)
    (h : ∀ v' w', OwnN base w' v' (zs ++ ys) → Only (fun k => v.ownBlock = some k) w w' → wpList Try.prog ops Q rest (a.put o.dst v') w') : wpList Try.prog ops Q (o :: rest) a w := by
  obtain ⟨i0, hi, hz0, hz1, hz2⟩ := info_parts infoN
  rcases hu.2 with ⟨rfl, hn⟩ | ⟨g, cap, cur, rfl, _, hg, hc, hm, hsz, ht⟩
  · obtain rfl := List.eq_nil_of_length_eq_zero hn
    refine wpList_append_own_none hgd s x 32 ho base 130 i0 4 Try.underlying32 hi v zs.length (flat zs) hs hown hx ?_
    exact h v w (by rw [List.append_nil]; exact hown) (Only.refl _ _)
  · refine wpList_append_own w hgd s x 32 ho base 130 i0 (.agg #[.int .i64 0, .int .i64 0, .int .i64 0, .int .i64 0]) 4 32 Try.underlying32 hi hz0 hz1 hz2 rfl (by decide) v zs.length (flat zs) hs hown ⟨g, 0, none⟩ ys.length cap (flat ys) hx (flat_len ys) (fun j u hj => World.ownsRow.cells hu (g := g) rfl j u hj) (fun u hu => flat_cells ys u hu) (by unfold maxLen; omega) (by omega) hbase (fun v' w' hO hG _ => ?_)
    refine h v' w' ?_ ((Only.refl _ w).grown hG (fun k hk => .inr hk))
    have e : (zs ++ ys).length = zs.length + ys.length := List.length_append
    unfold OwnN
    rw [e, flat_app]
    exact hO
end Go.Proofs.Ytgfippbcgneegaa
set_option linter.unusedVariables false
set_option linter.unusedSimpArgs false
namespace Go.Proofs.Ytgfippbcgneegaa
open Go.RowKit
structure AloneI (w0 : World) (B : Nat) (p A : Option Addr) (cp : Nat) (r0 : LS) (most j : Nat) (v : Value) (wr : World) : Prop where
  run : ∃ nv r, RunQ wr B p A cp nv r ∧ r.WB ∧ aloneL LS.pf most r0 = aloneL LS.pf (most - j) r
  notes : ∃ zs, OwnN w0.heap.size wr v zs ∧ zs.length ≤ 2 * j
  only : Only (At A) w0 wr
  new : w0.heap.size ≤ B
  old : ∀ j, At p j ∨ At A j → j < w0.heap.size
def AloneP (p A : Option Addr) (cp : Nat) (w : World) (t : Int × List Int) (e : Ending) (w' : World) : Prop := ∃ nv, e = .returned (.tuple #[.int .i64 t.1, nv]) ∧ Only (At A) w w' ∧ Memo w' p A cp t.2 ∧ Words t.2
theorem ownN_form {base : Nat} {w : World} {v : Value} {zs : List Nt} (h : OwnN base w v zs) : ∃ A n c, v = .slice A n c := by
  rcases h.2 with ⟨rfl, _⟩ | ⟨g, cap, cur, rfl, _⟩
  · exact ⟨none, 0, 0, rfl⟩
  · exact ⟨_, _, _, rfl⟩
set_option maxRecDepth 100000 in
set_option maxHeartbeats 2000000 in
theorem alone_any (p A : Option Addr) (cp : Nat) (k mode op : Int) (most : Nat) (xs : List Int) (w : World) (h : Memo w p A cp xs) (hx : Words xs) (hmost : most ≤ 1000) :
    Calls Try.prog 10 #[.pointer p, .int .i64 k, .int .i64 mode, .int .i64 op, .int .i64 most] w (AloneP p A cp w (aloneL LS.pf most (newR k mode 0 op xs))) := by
  have e0 := (Only.refl Nil w).alloc (.cells ((newR k mode 0 op xs).cells (.pointer p) (.slice none 0 0)) 61)
  have HI0 : Hid (AloneI w w.heap.size p A cp (newR k mode 0 op xs) most 0 (.slice none 0 0) (w.alloc (.cells ((newR k mode 0 op xs).cells (.pointer p) (.slice none 0 0)) 61))) :=
    Lib.hid ⟨⟨_, _, ⟨Row.new w _ _, h.keep e0⟩, wb_new hx, rfl⟩, ⟨[], ownN_nil _ _, Nat.zero_le _⟩, e0.mono (fun _ _ h => h.elim), Nat.le_refl _, h.lt⟩
  rw [show (newR k mode 0 op xs).cells (.pointer p) (.slice none 0 0) = newCells p k mode 0 op from rfl] at HI0
  unfold newCells at HI0
  clear e0 h hx
  generalize hr0 : newR k mode 0 op xs = r0 at *
  clear hr0
  go_enter Try.func10, Try.ntmps10
  go_upto_region 2 with (fail)
  generalize w.alloc (.cells #[.pointer p, .int .i64 k, .int .i64 mode, .int .i64 0, .int .i64 op, .int .i64 0, .int .u32 0, .int .u32 0, .int .i64 0, .bool false, .int .i64 0, .int .i64 0, .bool false, .int .i64 0, .int .i64 0, .int .i64 0, .int .u32 0, .int .u32 0, .int .u32 0, .slice none 0 0] 61) = w1 at *
  generalize hB : w.heap.size = B at *
  have HB := Lib.hid hB
  clear hB
  go_wp2_with fail
  go_loopw [13, 14] (fun nv i wr => ∃ j : Nat, j ≤ most ∧ i = .int .i64 j ∧ AloneI w B p A cp r0 most j nv wr) (fun _ i _ => most - (intOf i).toNat)
  case atStart => exact ⟨0, Nat.zero_le _, rfl, HI0.out⟩
  case round =>
    obtain ⟨j, hj, rfl, hI⟩ := hrel
    clear HI0
    obtain ⟨nvr, r, hQ, hW, hA⟩ := hI.run
    have HI := Lib.hid hI
    have HQ := Lib.hid hQ
    have HW := Lib.hid hW
    have HA := Lib.hid hA
    clear hI hQ hW hA
    by_cases hlt : j < most
    · go_wp2_with fail
      refine (pf_step B p A cp nvr r _ HQ.out HW.out.words HW.out.a HW.out.b).mono ?_
      obtain ⟨hg, hn2⟩ := good_next (L := LS.pf) (fun r => good_pf) r
      have HG := Lib.hid hg
      have HN2 := Lib.hid hn2
      clear hg hn2
      have HNW := Lib.hid (wb_next (L := LS.pf) (fun r => good_pf) keeps_pf HW.out)
      rintro e w2 ⟨rfl, hO, _, nv2, hP⟩
      have HO := Lib.hid hO
      have HP := Lib.hid hP
      clear hO hP
      obtain ⟨zs, hzs, hzl⟩ := HI.out.notes
      have HZ := Lib.hid (show OwnN w.heap.size w2 _ zs from own_only hzs HO.out (fun i hi e => by
        obtain ⟨cur, hc⟩ := ownN_tag hzs hi
        rcases e with e | e
        · exact row_ne hc HQ.out.row (by decide) e
        · exact memo_not HQ.out.memo hc (by decide) (by decide) (.inr e)))
      have HZL := Lib.hid hzl
      clear hzs hzl
      have HSTEP : Hid (aloneL LS.pf most r0 = if (r.next LS.pf).over then ((r.next LS.pf).ret, (r.next LS.pf).xs) else aloneL LS.pf (most - (j + 1)) (r.next LS.pf)) := Lib.hid (by
        rw [HA.out, show most - j = (most - (j + 1)) + 1 by omega]
        rfl)
      generalize r.next LS.pf = r2 at *
      have c19 : w2.cell? ⟨B, 19, none⟩ = some nv2 := HP.out.row.cell_ (i := 19) rfl
      have hbase : w.heap.size ≤ w2.heap.size := Nat.le_trans HI.out.only.size HO.out.size
      have HBA := Lib.hid hbase
      clear hbase
      go_wp2_with (at_builtin; refine wp_appNs rfl (.tmp 31) (.tmp 35) rfl w.heap.size _ _ (by rfl) HZ.out nv2 r2.ns (by rfl) HP.out.notes (by have := HZL.out; omega) (by have := HN2.out; omega) HBA.out ?_)
      intro v' w3 hown hO3
      clear c19
      have HRQ : Hid (RunQ w3 B p A cp nv2 r2) := Lib.hid ⟨HP.out.row.only hO3 (fun e => by
          obtain ⟨cur, hc⟩ := ownN_tag HZ.out e
          exact absurd (HP.out.row.same hc).1 (by decide)), HP.out.memo.far hO3 (fun j hj e => by
          obtain ⟨cur, hc⟩ := ownN_tag HZ.out e
          exact memo_not HP.out.memo hc (by decide) (by decide) hj)⟩
      have HO3 : Hid (Only (At A) w w3) := Lib.hid ((HI.out.only.step HO.out (fun i hi e => by
          rcases e with e | e
          · have := HI.out.new; omega
          · exact e)).step hO3 (fun i hi e => by
          have := (World.ownsRow.lt HZ.out i e).1
          omega))
      have HOW := Lib.hid hown
      obtain ⟨A9, n9, c9, rfl⟩ := ownN_form hown
      clear hown hO3
      cases hov : r2.over
      · have HSTEP2 := Lib.hid (HSTEP.out.trans (by rw [hov, if_neg Bool.false_ne_true]))
        clear hov
        go_wp2
        go_roundw
        case rel => exact ⟨j + 1, by omega, by go_num, ⟨⟨nv2, r2, HRQ.out, HNW.out, HSTEP2.out⟩, ⟨_, HOW.out, by rw [List.length_append]; have := HZL.out; have := HN2.out; omega⟩, HO3.out, HI.out.new, HI.out.old⟩⟩
        case measure => simp [intOf]; omega
      · have HSTEP2 := Lib.hid (HSTEP.out.trans (by rw [hov, if_pos rfl]))
        clear hov
        have c13 : w3.cell? ⟨B, 13, none⟩ = some (.int .i64 r2.ret) := HRQ.out.row.cell_ (i := 13) rfl
        go_wp2
        go_ret2
        rw [HSTEP2.out]
        exact ⟨_, rfl, HO3.out, HRQ.out.memo, HNW.out.words⟩
    · obtain rfl : j = most := by omega
      have HE := Lib.hid (show aloneL LS.pf j r0 = (0, r.xs) by rw [HA.out, Nat.sub_self]; rfl)
      go_wp2
      go_ret2
      rw [HE.out]
      exact ⟨_, rfl, HI.out.only, HQ.out.memo, HW.out.words⟩
end Go.Proofs.Ytgfippbcgneegaa
set_option linter.unusedVariables false
set_option linter.unusedSimpArgs false
namespace Go.Proofs.Ytgfippbcgneegaa
open Go.RowKit
def Fresh (w : World) (xs : List Int) (e : Ending) (w' : World) : Prop := ∃ b A' c', e = .returned (.tuple #[.pointer (some ⟨b, 0, none⟩), .int .i64 0]) ∧ w.heap.size ≤ b ∧ (∀ i, At A' i → w.heap.size ≤ i) ∧ Mem w' b A' c' xs ∧ Only Nil w w'
theorem from_ok (A : Option Addr) (n cap : Nat) (xs : List Int) (w : World) (hm : n ≤ 1024) (h : Held w A n cap xs) :
    Calls Try.prog 9 #[.slice A n cap] w (Fresh w xs) := by
  have hl := h.1
  have hm' : (n : Int) ≤ 1024 := by omega
  have HH := Lib.hid h
  have HL := Lib.hid hl
  clear h hl
  go_enter Try.func9, Try.ntmps9
  go_wp2_with (go_at_call 25; refine (clone_held A n cap xs _ (by omega) HH.out).mono ?_; rintro e w1 ⟨A', c', rfl, ho, hO⟩)
  have HO := Lib.hid ho
  have HW := Lib.hid hO
  clear ho hO
  go_ret2
  refine ⟨w1.heap.size, A', c', rfl, HW.out.size, HO.out.base, ⟨Row.new w1 _ _, ?_, ?_⟩, HW.out.alloc _⟩
  · exact ⟨own_base (own_only HO.out.own ((Only.refl Nil w1).alloc _) (fun _ _ h => h)) (Nat.zero_le _), HO.out.nil, fun _ _ => Nat.zero_le _⟩
  · rw [HL.out]; exact hm
end Go.Proofs.Ytgfippbcgneegaa
set_option linter.unusedVariables false
set_option linter.unusedSimpArgs false
namespace Go.Proofs.Ytgfippbcgneegaa
open Go.RowKit
structure Made (w0 : World) (b : Nat) (A : Option Addr) (cp : Nat) (xs : List Int) (W : World) : Prop where
  mem : Mem W b A cp xs
  new : ∀ j, At A j → w0.heap.size ≤ j
  only : Only Nil w0 W
theorem Made.call {w0 W W' : World} {b : Nat} {A : Option Addr} {cp : Nat} {xs ys : List Int} (h : Made w0 b A cp xs W) (ho : Only (At A) W W') (hm : Mem W' b A cp ys) : Made w0 b A cp ys W' :=
  ⟨hm, h.new, h.only.step ho (fun i hi e => by have := h.new i e; omega)⟩
end Go.Proofs.Ytgfippbcgneegaa
set_option linter.unusedVariables false
set_option linter.unusedSimpArgs false
namespace Go.Proofs.Ytgfippbcgneegaa
open Go.RowKit
theorem load_raw (b : Nat) (A : Option Addr) (cp : Nat) (xs : List Int) (c : Int) (w : World) (h : Mem w b A cp xs) :
    Calls Try.prog 11 #[.pointer (some ⟨b, 0, none⟩), .int .i64 c] w fun e w' => e = .returned (.int .u32 (wordAt xs c)) ∧ Only (At A) w w' ∧ Mem w' b A cp (doNew xs 1 c 0 0) := by
  have HH := Lib.hid h
  clear h
  go_enter Try.func11, Try.ntmps11
  go_wp2_with fail
  refine (do_any b A cp xs 1 c 0 0 0 _ HH.out).mono ?_
  obtain ⟨k', c', x', y', hv⟩ := doVal_form xs 1 c 0 0
  rw [oldAt xs 1 c rfl] at hv
  rintro e w1 ⟨rfl, hO, hM⟩
  rw [hv]
  have HO := Lib.hid hO
  have HM := Lib.hid hM
  clear hO hM hv
  go_wp2
  go_ret
  exact ⟨rfl, HO.out.alloc _, HM.out.only ((Only.refl Nil w1).alloc _) id (fun _ _ => id)⟩
theorem load_any (b : Nat) (A : Option Addr) (cp : Nat) (xs : List Int) (c : Int) (w : World) (h : Mem w b A cp xs) :
    Calls Try.prog 11 #[.pointer (some ⟨b, 0, none⟩), .int .i64 c] w fun e w' => e = .returned (.int .u32 (wordAt xs c)) ∧ Only (At A) w w' ∧ Mem w' b A cp xs :=
  (load_raw b A cp xs c w h).mono fun _ _ ⟨h1, h2, h3⟩ => ⟨h1, h2, by rw [doNew_load] at h3; exact h3⟩
end Go.Proofs.Ytgfippbcgneegaa
set_option linter.unusedVariables false
set_option linter.unusedSimpArgs false
namespace Go.Proofs.Ytgfippbcgneegaa
open Go.RowKit
theorem aw_alone {m : Nat} (h : m = 5) : aloneL LS.pf m (newR (1 : Nat) 1 0 3 ((T5.at 7).xs 1)) = (2, (⟨1795, 1792, 8, 7, 7⟩ : T5).xs 1) := by
  subst h
  decide
set_option maxHeartbeats 1000000 in
theorem awake_any (w : World) : Calls Try.prog 12 #[] w fun e w' => e = .returned (.bool true) ∧ Only Nil w w' := by
  go_enter Try.func12, Try.ntmps12
  go_wp2_with fail
  refine (first_pf 1 7 _ (by decide) (by decide)).mono ?_
  rintro e w1 ⟨g, rfl, hg, hH, hO⟩
  have HH := Lib.hid hH
  have HO := Lib.hid hO
  clear hg hH hO
  go_wp2_with fail
  refine (from_ok _ _ _ _ _ (by decide) HH.out).mono ?_
  rintro e w2 ⟨b, A', c', rfl, hb, hA, hM, hO⟩
  have HM : Hid (Made w b A' c' _ w2) := Lib.hid ⟨hM, fun j hj => Nat.le_trans HO.out.size (hA j hj), HO.out.trans hO⟩
  clear hb hA hM hO HO HH
  go_wp2_with fail
  refine (alone_any (some ⟨b, 0, none⟩) A' c' 1 1 3 5 _ _ (Memo.of HM.out.mem) (at_ok (by decide)).words (by decide)).mono ?_
  rw [show aloneL LS.pf 5 (newR 1 1 0 3 ((T5.at 7).xs 1)) = (2, (⟨1795, 1792, 8, 7, 7⟩ : T5).xs 1) from aw_alone rfl]
  rintro e w3 ⟨nv, rfl, hO, hM, _⟩
  have HM3 := Lib.hid (HM.out.call hO hM.mem)
  clear hO hM HM
  go_wp2_with fail
  refine (load_any b A' c' _ 2 _ HM3.out.mem).mono ?_
  rw [show wordAt ((⟨1795, 1792, 8, 7, 7⟩ : T5).xs 1) 2 = 8 from rfl]
  rintro e w4 ⟨rfl, hO, hM⟩
  have HM4 := Lib.hid (HM3.out.call hO hM)
  clear hO hM HM3
  go_wp2_with fail
  refine (load_any b A' c' _ 0 _ HM4.out.mem).mono ?_
  rw [show wordAt ((⟨1795, 1792, 8, 7, 7⟩ : T5).xs 1) 0 = 1795 from rfl]
  rintro e w5 ⟨rfl, hO, hM⟩
  have HM5 := Lib.hid (HM4.out.call hO hM)
  clear hO hM HM4
  go_wp2
  go_ret
  exact ⟨rfl, HM5.out.only⟩
end Go.Proofs.Ytgfippbcgneegaa
set_option linter.unusedVariables false
set_option linter.unusedSimpArgs false
namespace Go.Proofs.Ytgfippbcgneegaa
open Go.RowKit
theorem many_bd (m : MV) (what : Int) : ∀ k, manyI m what k ≤ k
  | 0 => Nat.le_refl _
  | k + 1 => by
    have := many_bd m what k
    unfold manyI
    split <;> omega
theorem many_any (L : List (Nat × TypeId × Array Value)) (w0 : World) (X GL GH : Nat) (B : Nat → Nat) (p A : Option Addr) (cp k : Nat) (m : MV) (what : Int) (w : World) (h : MatchP L w0 X GL GH B p A cp k m w) (hk : k ≤ 1000) :
    Calls Try.prog 15 #[Value.pointer (some ⟨X, 0, none⟩), .int .i64 what] w fun e w' => e = .returned (.int .i64 (manyI m what k)) ∧ w = w' := by
  obtain ⟨cl, hx0⟩ := h.x
  obtain ⟨csh, hh0, hh1⟩ := h.h
  have x1 : w.cell? ⟨X, 1, none⟩ = some (.slice (some ⟨GH, 0, none⟩) k k) := hx0.cell_ (i := 1) rfl
  have HH := Lib.hid (show ∀ i, i < k → w.cell? ⟨GH, i, none⟩ = some (.int .i64 (m.hold i)) from fun i hi => hh0.cell_ (hh1 i hi))
  clear h hx0 hh0 hh1
  go_enter Try.func15, Try.ntmps15
  go_wp2_with fail
  go_loop [5, 6] (fun nv iv => ∃ i : Nat, i ≤ k ∧ iv = .int .i64 i ∧ nv = .int .i64 (manyI m what i)) (fun _ iv => k - (intOf iv).toNat)
  case atStart => exact ⟨0, Nat.zero_le _, rfl, rfl⟩
  case round =>
    obtain ⟨i, hi, rfl, rfl⟩ := hrel
    have b1 := many_bd m what i
    by_cases hlt : i < k
    · have gh := HH.out i hlt
      have HS := Lib.hid (show manyI m what (i + 1) = if m.hold i = what then manyI m what i + 1 else manyI m what i from rfl)
      by_cases he : m.hold i = what
      · have he' : (m.hold i == what) = true := beq_iff_eq.2 he
        have HE := Lib.hid (HS.out.trans (if_pos he))
        clear he
        generalize manyI m what i = c at *
        generalize m.hold i = hv at *
        go_wp2
        go_round
        case rel => exact ⟨i + 1, by omega, by go_num, by rw [HE.out]; first | done | go_num⟩
        case measure => simp [intOf]; omega
      · have he' : (m.hold i == what) = false := beq_eq_false_iff_ne.2 he
        have HE := Lib.hid (HS.out.trans (if_neg he))
        clear he
        generalize manyI m what i = c at *
        generalize m.hold i = hv at *
        go_wp2
        go_round
        case rel => exact ⟨i + 1, by omega, by go_num, by rw [HE.out]; first | done | go_num⟩
        case measure => simp [intOf]; omega
    · obtain rfl : i = k := by omega
      go_wp2
      go_ret
      exact ⟨rfl, rfl⟩
def OwnP (base : Nat) (w : World) (v : Value) (bs : List Nat) : Prop := w.ownsRow base 62 1 v bs.length (bs.map fun b => Value.pointer (some ⟨b, 0, none⟩))
theorem infoP : (Try.prog.info? 62).map (fun i => (i.zero, i.size, i.bytes)) = some (some (.pointer none), 1, 8) := by kernel_rfl
theorem infoI : (Try.prog.info? 3).map (fun i => (i.zero, i.size, i.bytes)) = some (some (.int .i64 0), 1, 8) := by kernel_rfl
theorem ownP_nil (base : Nat) (w : World) : OwnP base w (.slice none 0 0) [] := World.ownsRow_nil _ _ _ _
theorem ownP_tag {base : Nat} {w : World} {v : Value} {bs : List Nat} (h : OwnP base w v bs) {i : Nat} (hi : v.ownBlock = some i) : ∃ cur, Row w i 62 cur := by
  rcases h.2 with ⟨rfl, _⟩ | ⟨g, cap, cur, rfl, _, hg, _⟩
  · cases hi
  · have e : g = i := by simpa [Value.ownBlock] using hi
    subst e
    exact ⟨cur, hg⟩
theorem ownP_form {base : Nat} {w : World} {v : Value} {bs : List Nat} (h : OwnP base w v bs) : ∃ A n c, v = .slice A n c := by
  rcases h.2 with ⟨rfl, _⟩ | ⟨g, cap, cur, rfl, _⟩
  · exact ⟨none, 0, 0, rfl⟩
  · exact ⟨_, _, _, rfl⟩
theorem wp_appP {w : World} {ops : Array Oper} {rest : List Oper} {o : Oper} {a : Act} {Q : Exit → Act → World → Prop} (hgd : o.guard = none) (s x : Operand)
    (ho : o.op = .call { callee := .builtin .append, args := #[s, x], argTypes := #[47, 47] })
    (base : Nat) (v : Value) (bs : List Nat) (hs : a.eval s = v) (hown : OwnP base w v bs)
    (g nb : Nat) (hx : a.eval x = .slice (some ⟨g, 0, none⟩) 1 1) (hrow : Row w g 62 #[.pointer (some ⟨nb, 0, none⟩)])
    (h1 : bs.length ≤ 1000) (hbase : base ≤ w.heap.size)
    (h : ∀ v' w', OwnP base w' v' (bs ++ [nb]) → Only (fun k => v.ownBlock = some k) w w' → wpList Try.prog ops Q rest (a.put o.dst v') w') : wpList Try.prog ops Q (o :: rest) a w := by
  obtain ⟨i0, hi, hz0, hz1, hz2⟩ := info_parts infoP
  refine wpList_append_own w hgd s x 47 ho base 62 i0 (.pointer none) 1 8 Try.underlying47 hi hz0 hz1 hz2 rfl (by decide) v bs.length _ hs hown ⟨g, 0, none⟩ 1 1 [.pointer (some ⟨nb, 0, none⟩)] hx rfl (fun j u hj => ?_) (fun u hu => ?_) (by unfold maxLen; omega) (by omega) hbase (fun v' w' hO hG _ => ?_)
  · rw [add_at, Nat.zero_add]
    exact hrow.cell_ (by rw [← hj]; simp)
  · simp only [List.mem_cons, List.not_mem_nil, or_false] at hu
    subst hu
    rfl
  · refine h v' w' ?_ ((Only.refl _ w).grown hG (fun k hk => .inr hk))
    unfold OwnP
    rw [List.length_append, List.map_append]
    exact hO
structure BegunI (w0 : World) (X GH b : Nat) (A : Option Addr) (cp k : Nat) (mode : Int) (xs : List Int) (j : Nat) (W : World) : Prop where
  x : ∃ lv bs, Row W X 49 #[lv, .slice (some ⟨GH, 0, none⟩) k k] ∧ OwnP w0.heap.size W lv bs ∧ bs.length = j ∧ (∀ (i : Nat) (b' : Nat), bs[i]? = some b' → Row W b' 61 (newCells (some ⟨b, 0, none⟩) k mode i 0) ∧ w0.heap.size ≤ b') ∧ (∀ (i i' b' : Nat), bs[i]? = some b' → bs[i']? = some b' → i = i')
  h : ∃ cs, Row W GH 3 cs ∧ ∀ i, i < k → cs[i]? = some (.int .i64 0)
  made : Made w0 b A cp xs W
  gh : w0.heap.size ≤ GH
  xb : w0.heap.size ≤ X
theorem made_zero (k i : Nat) (hi : i < k) : (madeCells #[.int .i64 0] k)[i]? = some (.int .i64 0) := by
  rw [← Array.getElem?_toList, toList_madeCells_one, List.getElem?_replicate, if_pos hi]
def BegunP (k : Nat) (m : MV) (w : World) (e : Ending) (w' : World) : Prop := ∃ X GL GH B p A cp, e = .returned (Value.pointer (some ⟨X, 0, none⟩)) ∧ MatchP [] w X GL GH B p A cp k m w'
set_option maxRecDepth 100000 in
set_option maxHeartbeats 2000000 in
theorem begun_any (k : Nat) (mode b0 : Int) (w : World) (hk : 1 ≤ k ∧ k ≤ 64) (hb : 0 ≤ b0 ∧ b0 < 4294967296) :
    Calls Try.prog 13 #[.int .i64 k, .int .i64 mode, .int .u32 b0] w (BegunP k ⟨fun i => newR k mode i 0 ((T5.at b0).xs k), fun _ => 0, ((T5.at b0).xs k)⟩ w) := by
  have HBD := Lib.hid hb
  have HK := Lib.hid hk
  have hk1 : (1 : Int) ≤ k := by omega
  have hk2 : (k : Int) ≤ 64 := by omega
  have hk3 : k ≤ 64 := by omega
  clear hb hk
  have hmk := fun W => run_make_row' (P := Try.prog) 23 3 (.int .i64 0) 8 Try.underlying23 infoI rfl .i64 .i64 k (by omega) (by omega) W
  go_enter Try.func13, Try.ntmps13
  go_wp2_with fail
  refine (first_pf k b0 _ HK.out HBD.out).mono ?_
  rintro e w1 ⟨gf, rfl, hg, hH, hO⟩
  have HH := Lib.hid hH
  have HO := Lib.hid hO
  clear hg hH hO
  go_wp2_with fail
  refine (from_ok _ _ _ _ _ (by omega) HH.out).mono ?_
  rintro e w2 ⟨b, A', c', rfl, hb, hA, hM, hO⟩
  have HM : Hid (Made w b A' c' _ w2) := Lib.hid ⟨hM, fun j hj => Nat.le_trans HO.out.size (hA j hj), HO.out.trans hO⟩
  clear hb hA hM hO HO HH
  have e1 := (Only.refl Nil w2).alloc (.cells (madeCells #[.int .i64 0] k) 3)
  have e2 := e1.alloc (.cells #[.slice none 0 0, .slice (some ⟨w2.heap.size, 0, none⟩) k k] 49)
  have HI0 : Hid (BegunI w (w2.heap.size + 1) w2.heap.size b A' c' k mode ((T5.at b0).xs k) 0 ((w2.alloc (.cells (madeCells #[.int .i64 0] k) 3)).alloc (.cells #[.slice none 0 0, .slice (some ⟨w2.heap.size, 0, none⟩) k k] 49))) :=
    Lib.hid ⟨⟨_, [], Row.new2 w2 _ _ _, ownP_nil _ _, rfl, fun i b' h => by simp at h, fun i i' b' h => by simp at h⟩, ⟨_, (Row.new w2 _ _).alloc _, fun i hi => made_zero k i hi⟩, ⟨HM.out.mem.only e2 id (fun _ _ => id), HM.out.new, HM.out.only.trans e2⟩, HM.out.only.size, Nat.le_trans HM.out.only.size (Nat.le_succ _)⟩
  clear e1 e2 HM
  go_upto_region 7 with (fail)
  generalize (w2.alloc (.cells (madeCells #[.int .i64 0] k) 3)).alloc (.cells #[.slice none 0 0, .slice (some ⟨w2.heap.size, 0, none⟩) k k] 49) = w3 at *
  generalize w2.heap.size + 1 = X at *
  generalize w2.heap.size = GH at *
  clear hmk
  go_loopw [12] (fun iv wr => ∃ j : Nat, j ≤ k ∧ iv = .int .i64 j ∧ BegunI w X GH b A' c' k mode ((T5.at b0).xs k) j wr) (fun iv _ => k - (intOf iv).toNat)
  case atStart => exact ⟨0, Nat.zero_le _, rfl, HI0.out⟩
  case round =>
    obtain ⟨j, hj, rfl, hI⟩ := hrel
    clear HI0
    obtain ⟨lv, bs, hx, hown, hlen, hruns, hinj⟩ := hI.x
    have HI := Lib.hid hI
    have HX := Lib.hid hx
    have HOW := Lib.hid hown
    have HLN := Lib.hid hlen
    have HRU := Lib.hid hruns
    have HIN := Lib.hid hinj
    clear hI hlen hruns hinj
    by_cases hlt : j < k
    · obtain ⟨A9, n9, c9, rfl⟩ := ownP_form hown
      have cx : wr.cell? ⟨X, 0, none⟩ = some (.slice A9 n9 c9) := hx.cell_ (i := 0) rfl
      clear hx hown
      have e1 := (Only.refl Nil wr).alloc (.cells (newCells (some ⟨b, 0, none⟩) k mode j 0) 61)
      have e2 := e1.alloc (.cells #[.pointer (some ⟨wr.heap.size, 0, none⟩)] 62)
      have HE2 := Lib.hid e2
      have HRN := Lib.hid ((Row.new wr 61 (newCells (some ⟨b, 0, none⟩) k mode j 0)).alloc (.cells #[.pointer (some ⟨wr.heap.size, 0, none⟩)] 62))
      have HPN := Lib.hid (Row.new2 wr (.cells (newCells (some ⟨b, 0, none⟩) k mode j 0) 61) 62 #[.pointer (some ⟨wr.heap.size, 0, none⟩)])
      have HBASE := Lib.hid (Nat.le_trans HI.out.made.only.size e2.size)
      clear e1 e2
      unfold newCells at HE2 HRN HPN HBASE
      go_wp2_with (at_builtin; refine wp_appP rfl (.tmp 43) (.tmp 51) rfl w.heap.size _ bs (by rfl) (own_only HOW.out HE2.out (fun _ _ => id)) (wr.heap.size + 1) wr.heap.size (by rfl) HPN.out (by have := HLN.out; omega) HBASE.out ?_)
      intro v' w5 hown5 hO5
      obtain ⟨A8, n8, c8, rfl⟩ := ownP_form hown5
      clear cx
      have HX5 := Lib.hid ((HX.out.only HE2.out id).only hO5 (fun e => by
        obtain ⟨cur, hc⟩ := ownP_tag HOW.out e
        exact row_ne HX.out hc (by decide) rfl))
      have HFAR := Lib.hid (show ∀ (g : Nat) (t : TypeId) (cs : Array Value), Row wr g t cs → t ≠ 62 → Row w5 g t cs from fun g t cs hr ht => (hr.only HE2.out id).only hO5 (fun e => by
        obtain ⟨cur, hc⟩ := ownP_tag HOW.out e
        exact row_ne hr hc ht rfl))
      have HRN5 := Lib.hid (HRN.out.only hO5 (fun e => by
        have := (World.ownsRow.lt HOW.out _ e).2
        omega))
      have HM5 : Hid (Made w b A' c' ((T5.at b0).xs k) w5) := Lib.hid ⟨(HI.out.made.mem.only HE2.out id (fun _ _ => id)).only hO5 (fun e => by
          obtain ⟨cur, hc⟩ := ownP_tag HOW.out e
          exact row_ne HI.out.made.mem.hdr hc (by decide) rfl) (fun i hi e => by
          obtain ⟨cur, hc⟩ := ownP_tag HOW.out e
          exact memo_not (Memo.of HI.out.made.mem) hc (by decide) (by decide) (.inr hi)), HI.out.made.new, (HI.out.made.only.trans HE2.out).step hO5 (fun i hi e => by
          have := (World.ownsRow.lt HOW.out _ e).1
          omega)⟩
      have HOW5 := Lib.hid hown5
      have HWS := Lib.hid (show wr.heap.size < w5.heap.size from by
        have h1 := hO5.size
        have h2 : wr.heap.size < ((wr.alloc (.cells #[.pointer (some ⟨b, 0, none⟩), .int .i64 k, .int .i64 mode, .int .i64 j, .int .i64 0, .int .i64 0, .int .u32 0, .int .u32 0, .int .i64 0, .bool false, .int .i64 0, .int .i64 0, .bool false, .int .i64 0, .int .i64 0, .int .i64 0, .int .u32 0, .int .u32 0, .int .u32 0, .slice none 0 0] 61)).alloc (.cells #[.pointer (some ⟨wr.heap.size, 0, none⟩)] 62)).heap.size := by simp; omega
        omega)
      have y0 : w5.cell? ⟨X, 0, none⟩ = some (.slice A9 n9 c9) := HX5.out.cell_ (i := 0) rfl
      have yf : w5.frozen? ⟨X, 0, none⟩ = false := HX5.out.frozen 0
      clear hown5 hO5
      go_wp2
      clear y0 yf
      have HO6 := Lib.hid ((Only.refl (· = X) w5).setCell (p := ⟨X, 0, none⟩) (.inr rfl) (.slice A8 n8 c8))
      have hI' : BegunI w X GH b A' c' k mode ((T5.at b0).xs k) (j + 1) (w5.setCell ⟨X, 0, none⟩ (.slice A8 n8 c8)) := by
        refine ⟨⟨.slice A8 n8 c8, bs ++ [wr.heap.size], HX5.out.set 0 (.slice A8 n8 c8), own_only HOW5.out HO6.out (fun i hi e => ?_), by rw [List.length_append, HLN.out]; rfl, fun i b' hb' => ?_, fun i i' b' h1 h2 => ?_⟩, ?_, ⟨HM5.out.mem.only HO6.out (fun e => row_ne HM5.out.mem.hdr HX5.out (by decide) e) (fun i hi e => memo_not (Memo.of HM5.out.mem) HX5.out (by decide) (by decide) (by subst e; exact .inr hi)), HM5.out.new, HM5.out.only.setCell (.inl HI.out.xb) _⟩, HI.out.gh, HI.out.xb⟩
        · obtain ⟨cur, hc⟩ := ownP_tag HOW5.out hi
          exact row_ne hc HX5.out (by decide) e
        · by_cases hi : i < bs.length
          · rw [List.getElem?_append_left hi] at hb'
            obtain ⟨hr, hb0⟩ := HRU.out i b' hb'
            exact ⟨(HFAR.out _ _ _ hr (by decide)).only HO6.out (fun e => row_ne (HFAR.out _ _ _ hr (by decide)) HX5.out (by decide) e), hb0⟩
          · rw [List.getElem?_append_right (by omega)] at hb'
            have hij : i = bs.length := by
              by_cases e : i = bs.length
              · exact e
              · rw [List.getElem?_eq_none (by simp; omega)] at hb'
                cases hb'
            subst hij
            simp only [Nat.sub_self, List.getElem?_cons_zero, Option.some.injEq] at hb'
            subst hb'
            rw [HLN.out]
            exact ⟨HRN5.out.only HO6.out (fun e => row_ne HRN5.out HX5.out (by decide) e), HI.out.made.only.size⟩
        · have hlt1 : ∀ (q : Nat), bs[q]? = some b' → b' < wr.heap.size := fun q hq => (HRU.out q b' hq).1.lt
          by_cases hi : i < bs.length
          · by_cases hi' : i' < bs.length
            · rw [List.getElem?_append_left hi] at h1
              rw [List.getElem?_append_left hi'] at h2
              exact HIN.out i i' b' h1 h2
            · rw [List.getElem?_append_left hi] at h1
              have := hlt1 i h1
              rw [List.getElem?_append_right (by omega)] at h2
              have := List.mem_of_getElem? h2
              simp only [List.mem_cons, List.not_mem_nil, or_false] at this
              omega
          · by_cases hi' : i' < bs.length
            · rw [List.getElem?_append_left hi'] at h2
              have := hlt1 i' h2
              rw [List.getElem?_append_right (by omega)] at h1
              have := List.mem_of_getElem? h1
              simp only [List.mem_cons, List.not_mem_nil, or_false] at this
              omega
            · have l1 := (List.getElem?_eq_some_iff.1 h1).1
              have l2 := (List.getElem?_eq_some_iff.1 h2).1
              rw [List.length_append] at l1 l2
              simp only [List.length_cons, List.length_nil] at l1 l2
              omega
        · obtain ⟨cs, hc, hz⟩ := HI.out.h
          exact ⟨cs, (HFAR.out _ _ _ hc (by decide)).only HO6.out (fun e => row_ne (HFAR.out _ _ _ hc (by decide)) HX5.out (by decide) e), hz⟩
      go_roundw
      case rel => exact ⟨j + 1, by omega, by go_num, hI'⟩
      case measure => simp [intOf]; omega
    · obtain rfl : j = k := by omega
      clear hx hown
      go_wp2
      go_ret
      rcases HOW.out.2 with ⟨_, hn⟩ | ⟨g, cap, cur, rfl, hb, hg, hc, hm, hsz, ht⟩
      · have := HLN.out; have := HK.out; omega
      · have hcur : ∀ i, i < j → cur[i]? = some (.pointer (some ⟨bs.getD i 0, 0, none⟩)) := fun i hi => by
          have e1 : (cur.toList.take (bs.length * 1))[i]? = (bs.map fun b => Value.pointer (some ⟨b, 0, none⟩))[i]? := by rw [ht]
          have hib : i < bs.length := by rw [HLN.out]; exact hi
          rw [List.getElem?_take, if_pos (by omega), List.getElem?_map, List.getElem?_eq_getElem hib] at e1
          simp only [Option.map_some, Array.getElem?_toList] at e1
          rw [e1]
          simp [List.getD, List.getElem?_eq_getElem hib]
        have hget : ∀ i, i < j → bs[i]? = some (bs.getD i 0) := fun i hi => by
          have hib : i < bs.length := by rw [HLN.out]; exact hi
          simp [List.getD, List.getElem?_eq_getElem hib]
        have hX := HX.out
        rw [HLN.out] at hX
        refine ⟨X, g, GH, fun i => bs.getD i 0, some ⟨b, 0, none⟩, A', c', rfl, ⟨⟨cap, hX⟩, ⟨cur, hg, hcur⟩, HI.out.h, fun i hi => ⟨.slice none 0 0, (HRU.out i _ (hget i hi)).1, Memo.of HI.out.made.mem⟩, fun i i' hi hi' e => ?_, Memo.of HI.out.made.mem, (at_ok HBD.out).words, HI.out.made.only, ?_, fun x hx => by simp at hx, fun x hx => by simp at hx, fun i hi => ⟨⟨Int.le_refl _, by show (0 : Int) < _; decide⟩, ⟨Int.le_refl _, by show (0 : Int) < _; decide⟩⟩⟩⟩
        · have h1 := hget i hi
          have h2 := hget i' hi'
          rw [← e] at h2
          exact HIN.out i i' _ h1 h2
        · rintro q (rfl | h | ⟨i, hi, rfl⟩)
          · exact HI.out.gh
          · exact HI.out.made.new q h
          · exact (HRU.out i _ (hget i hi)).2
end Go.Proofs.Ytgfippbcgneegaa
set_option linter.unusedVariables false
set_option linter.unusedSimpArgs false
namespace Go.Proofs.Ytgfippbcgneegaa
def sumN (f : Nat → Nat) : Nat → Nat
  | 0 => 0
  | k + 1 => sumN f k + f k
theorem sumN_congr {f g : Nat → Nat} : ∀ {k : Nat}, (∀ i, i < k → f i = g i) → sumN f k = sumN g k
  | 0, _ => rfl
  | k + 1, h => by
    show sumN f k + f k = sumN g k + g k
    rw [sumN_congr (k := k) (fun i hi => h i (by omega)), h k (by omega)]
theorem sumN_upd {f g : Nat → Nat} {t : Nat} : ∀ {k : Nat}, t < k → (∀ i, i < k → i ≠ t → g i = f i) → sumN g k + f t = sumN f k + g t
  | 0, h, _ => absurd h (Nat.not_lt_zero _)
  | k + 1, h, ho => by
    show sumN g k + g k + f t = sumN f k + f k + g t
    by_cases e : t = k
    · subst e
      rw [sumN_congr (f := g) (g := f) (k := t) (fun i hi => ho i (by omega) (by omega))]
      omega
    · have := sumN_upd (f := f) (g := g) (t := t) (k := k) (by omega) (fun i hi hn => ho i (by omega) hn)
      have := ho k (by omega) (by omega)
      omega
theorem sumN_le {f g : Nat → Nat} : ∀ {k : Nat}, (∀ i, i < k → f i ≤ g i) → sumN f k ≤ sumN g k
  | 0, _ => Nat.le_refl _
  | k + 1, h => Nat.add_le_add (sumN_le (k := k) fun i hi => h i (by omega)) (h k (by omega))
theorem sumN_zero {f : Nat → Nat} : ∀ {k : Nat}, (∀ i, i < k → f i = 0) → sumN f k = 0
  | 0, _ => rfl
  | k + 1, h => by
    show sumN f k + f k = 0
    rw [sumN_zero (k := k) (fun i hi => h i (by omega)), h k (by omega)]
theorem sumN_at {f : Nat → Nat} {i : Nat} : ∀ {k : Nat}, i < k → f i ≤ sumN f k
  | 0, h => absurd h (Nat.not_lt_zero _)
  | k + 1, h => by
    show f i ≤ sumN f k + f k
    by_cases e : i = k
    · subst e; omega
    · have := sumN_at (f := f) (i := i) (k := k) (by omega); omega
theorem sumN_const {c : Nat} : ∀ {k : Nat}, sumN (fun _ => c) k = k * c
  | 0 => by simp [sumN]
  | k + 1 => by
    show sumN (fun _ => c) k + c = (k + 1) * c
    rw [sumN_const, Nat.add_mul, Nat.one_mul]
theorem sumN_add {f g : Nat → Nat} : ∀ {k : Nat}, sumN (fun i => f i + g i) k = sumN f k + sumN g k
  | 0 => rfl
  | k + 1 => by
    show sumN (fun i => f i + g i) k + (f k + g k) = sumN f k + f k + (sumN g k + g k)
    rw [sumN_add]; omega
theorem holes_le (tk : Nat → Nat) (k lo : Nat) : ∀ (n : Nat) (f : Nat → Nat), (∀ i, i < k → f i ≤ 1) → (∀ i, i < k → f i = 1 → lo ≤ tk i ∧ tk i < lo + n) → (∀ i j, i < k → j < k → f i = 1 → f j = 1 → tk i = tk j → i = j) → sumN f k ≤ n := by
  intro n
  induction n with
  | zero =>
    intro f h1 hr _
    refine Nat.le_of_eq (sumN_zero fun i hi => ?_)
    by_cases e : f i = 1
    · have := hr i hi e; omega
    · have := h1 i hi; omega
  | succ n ih =>
    intro f h1 hr hd
    by_cases hg : ∃ i, i < k ∧ f i = 1 ∧ tk i = lo + n
    · obtain ⟨g, hgk, hgf, hgt⟩ := hg
      have hu := sumN_upd (f := f) (g := upd f g 0) (t := g) (k := k) hgk (fun i _ hi => upd_other f 0 hi)
      rw [upd_same] at hu
      have other : ∀ i, i < k → upd f g 0 i = 1 → i ≠ g ∧ f i = 1 := fun i hi hf => by
        by_cases e : i = g
        · rw [e, upd_same] at hf; omega
        · rw [upd_other f 0 e] at hf; exact ⟨e, hf⟩
      have := ih (upd f g 0)
        (fun i hi => by
          by_cases e : i = g
          · rw [e, upd_same]; omega
          · rw [upd_other f 0 e]; exact h1 i hi)
        (fun i hi hf => by
          obtain ⟨e, hf⟩ := other i hi hf
          have := hr i hi hf
          have hne : tk i ≠ tk g := fun h => e (hd i g hi hgk hf hgf h)
          omega)
        (fun i j hi hj hfi hfj h => hd i j hi hj (other i hi hfi).2 (other j hj hfj).2 h)
      omega
    · have := ih f h1 (fun i hi hf => by
        have := hr i hi hf
        have hne : tk i ≠ lo + n := fun h => hg ⟨i, hi, hf, h⟩
        omega) hd
      omega
theorem holes {tk f : Nat → Nat} {k lo n : Nat} (h1 : ∀ i, i < k → f i ≤ 1) (hr : ∀ i, i < k → f i = 1 → lo ≤ tk i ∧ tk i < lo + n) (hd : ∀ i j, i < k → j < k → f i = 1 → f j = 1 → tk i = tk j → i = j) (hs : sumN f k = n) (hn : 0 < n) : ∃ i, i < k ∧ f i = 1 ∧ tk i = lo := by
  by_cases hg : ∃ i, i < k ∧ f i = 1 ∧ tk i = lo
  · exact hg
  · exfalso
    have := holes_le tk k (lo + 1) (n - 1) f h1 (fun i hi hf => by
      have := hr i hi hf
      have hne : tk i ≠ lo := fun h => hg ⟨i, hi, hf, h⟩
      omega) hd
    omega
end Go.Proofs.Ytgfippbcgneegaa
