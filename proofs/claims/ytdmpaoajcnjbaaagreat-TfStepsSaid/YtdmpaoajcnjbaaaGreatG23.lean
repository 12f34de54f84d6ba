import Derived.Laws.AppendOwnNone
import Derived.Test.YtdmpaoajcnjbaaaGreatG16
import Derived.Test.YtdmpaoajcnjbaaaGreatG6
import Derived.Test.YtdmpaoajcnjbaaaGreatG22
import Derived.Test.YtdmpaoajcnjbaaaGreatG17
import Derived.Test.YtdmpaoajcnjbaaaGreatG5
import Derived.Test.YtdmpaoajcnjbaaaGreatG15
set_option linter.unusedVariables false
set_option linter.unusedSimpArgs false
namespace Go.Proofs.YtdmpaoajcnjbaaaGreat
open Go.RowKit
theorem word_bd {xs : List Int} (h : Words xs) (c : Int) : 0 ≤ wordAt xs c ∧ wordAt xs c < 4294967296 := word_wf h c
theorem doNew_wordsK {xs : List Int} (h : Words xs) (k c x y : Int) (hl : 0 ≤ leftOf k x y (wordAt xs c) ∧ leftOf k x y (wordAt xs c) < 4294967296) : Words (doNew xs k c x y) := by
  unfold doNew
  split
  · intro n hn
    rcases List.mem_or_eq_of_mem_set hn with hn | rfl
    · exact h n hn
    · exact wf_mk hl.1 hl.2
  · exact h
theorem wake_wordsK {xs : List Int} (h : Words xs) (n : Int) (on : Bool) (c i : Int) (hit : Bool) : Words (wakeI xs n on c i hit).xs := by
  unfold wakeI giveI lookI restI
  repeat' split
  all_goals first | exact h | exact h.st _ (by omega) (by omega)
theorem wake_lenK (xs : List Int) (n : Int) (on : Bool) (c i : Int) (hit : Bool) : (wakeI xs n on c i hit).xs.length = xs.length := by
  unfold wakeI giveI lookI restI
  repeat' split
  all_goals first | rfl | exact st_len _ _ _
structure LS.Good (r r' : LS) (m : Nat) : Prop where
  n : r'.n = r.n
  mode : r'.mode = r.mode
  task : r'.task = r.task
  op : r'.op = r.op
  len : r'.xs.length = r.xs.length
  words : Words r.xs → Words r'.xs
  notes : r'.ns.length ≤ r.ns.length + m
section
variable {r : LS}
theorem good_refl (r : LS) : r.Good r 0 := ⟨rfl, rfl, rfl, rfl, rfl, id, Nat.le_refl _⟩
theorem LS.Good.trans {r r' r'' : LS} {m m' : Nat} (h : r.Good r' m) (k : r'.Good r'' m') : r.Good r'' (m + m') :=
  ⟨k.n.trans h.n, k.mode.trans h.mode, k.task.trans h.task, k.op.trans h.op, k.len.trans h.len, k.words ∘ h.words, by have := h.notes; have := k.notes; omega⟩
theorem LS.Good.le {r r' : LS} {m m' : Nat} (h : r.Good r' m) (hm : m ≤ m') : r.Good r' m' := ⟨h.n, h.mode, h.task, h.op, h.len, h.words, by have := h.notes; omega⟩
theorem good_do {k c x y : Int} (hl : Words r.xs → 0 ≤ leftOf k x y (wordAt r.xs c) ∧ leftOf k x y (wordAt r.xs c) < 4294967296) : r.Good (r.doA k c x y) 0 := ⟨rfl, rfl, rfl, rfl, doNew_len _ _ _ _ _, fun h => doNew_wordsK h _ _ _ _ (hl h), Nat.le_refl _⟩
theorem good_load (c : Int) : r.Good (r.doA 1 c 0 0) 0 := good_do (fun h => word_bd h c)
theorem good_add (c x : Int) : r.Good (r.doA 3 c x 0) 0 := good_do (fun h => by show 0 ≤ (x + wordAt r.xs c) % 4294967296 ∧ (x + wordAt r.xs c) % 4294967296 < 4294967296; omega)
theorem good_cas (c x y : Int) (hy : 0 ≤ y ∧ y < 4294967296) : r.Good (r.doA 5 c x y) 0 := good_do (fun h => by
  show 0 ≤ (if wordAt r.xs c = x then y else wordAt r.xs c) ∧ (if wordAt r.xs c = x then y else wordAt r.xs c) < 4294967296
  split
  · exact hy
  · exact word_bd h c)
theorem good_note (what arg : Int) : r.Good (r.note what arg) 1 := ⟨rfl, rfl, rfl, rfl, rfl, id, by simp [LS.note]⟩
theorem good_go (l : Int) : r.Good (r.go l) 0 := ⟨rfl, rfl, rfl, rfl, rfl, id, Nat.le_refl _⟩
theorem good_fin (b : Bool) : r.Good (r.fin b) 0 := ⟨rfl, rfl, rfl, rfl, rfl, id, Nat.le_refl _⟩
theorem good_wake (c : Int) : r.Good (r.wake c) 0 := ⟨rfl, rfl, rfl, rfl, rfl, id, Nat.le_refl _⟩
theorem good_keepA (v : Int) : r.Good (r.keepA v) 0 := ⟨rfl, rfl, rfl, rfl, rfl, id, Nat.le_refl _⟩
theorem good_keepB (v : Int) : r.Good (r.keepB v) 0 := ⟨rfl, rfl, rfl, rfl, rfl, id, Nat.le_refl _⟩
theorem good_wait (c : Int) (q : Int → Bool) : r.Good (r.wait c q) 0 := ⟨rfl, rfl, rfl, rfl, step_len _ _ _ _ _ _ _, fun h => Words.step h _ _ _ _ _ _, Nat.le_refl _⟩
theorem good_fresh : r.Good r.fresh 0 := ⟨rfl, rfl, rfl, rfl, rfl, id, Nat.zero_le _⟩
theorem good_waking : r.Good r.waking 0 := ⟨rfl, rfl, rfl, rfl, wake_lenK _ _ _ _ _ _, fun h => wake_wordsK h _ _ _ _ _, Nat.zero_le _⟩
theorem good_draw (cl : Int) : r.Good (r.draw cl) 2 := ((((good_add 0 1).trans (good_keepA _)).trans (good_note 2 cl)).trans (good_go 1)).le (by decide)
theorem good_turn (c what : Int) : r.Good (r.turn c what) 2 := ((((good_add c 1).trans (good_note what 0)).trans (good_wake c)).trans (good_fin true)).le (by decide)
theorem good_leave : r.Good r.leave 2 := ((((good_add 1 1).trans (good_note 7 0)).trans (good_wake 1)).trans (good_go 1)).le (by decide)
theorem good_look : r.Good r.look 2 := (((good_load 0).trans (good_keepA _)).trans (good_go 1)).le (by decide)
theorem good_weigh (c own : Int) : r.Good (r.weigh c own) 2 := by
  unfold LS.weigh
  split
  · exact ((((good_load c).trans (good_keepB _)).trans (good_note 5 0)).trans (good_fin false)).le (by decide)
  split
  · exact (((good_load c).trans (good_keepB _)).trans (good_go 0)).le (by decide)
  · exact (((good_load c).trans (good_keepB _)).trans (good_go 2)).le (by decide)
theorem good_claim : r.Good r.claim 0 := good_cas _ _ _ (by omega)
theorem good_back : r.Good r.giveBack 2 := ((good_add 2 1).trans (good_fin true)).le (by decide)
theorem good_awaitR : r.Good r.awaitR 2 := by
  unfold LS.awaitR
  split
  · exact ((good_wait _ _).trans (good_go 2)).le (by decide)
  · exact (good_wait _ _).le (by decide)
theorem good_noteIf (b : Bool) (what : Int) : r.Good (r.noteIf b what) 1 := by
  cases b
  · exact (good_refl r).le (by decide)
  · exact good_note _ _
theorem good_awaitW : r.Good r.awaitW 2 := by
  unfold LS.awaitW
  split
  · exact (((good_wait _ _).trans (good_noteIf _ _)).trans (good_fin true)).le (by decide)
  · exact ((good_wait _ _).trans (good_noteIf _ _)).le (by decide)
theorem good_tf : r.Good r.tf 2 := by
  unfold LS.tf
  split
  · exact good_draw _
  · exact good_awaitR
  · exact good_turn _ _
  · exact good_turn _ _
  · exact good_draw _
  · exact good_awaitW
  · exact good_leave
  · exact good_turn _ _
  · exact good_look
  · exact good_weigh _ _
  · split
    · exact ((good_claim.trans (good_note 2 1)).trans (good_go 3)).le (by decide)
    · exact (good_claim.trans (good_go 0)).le (by decide)
  · exact good_turn _ _
  · exact good_look
  · exact good_weigh _ _
  · split
    · exact (((good_claim.trans (good_note 2 2)).trans (good_note 4 0)).trans (good_fin true)).le (by decide)
    · exact (good_claim.trans (good_go 0)).le (by decide)
  · exact good_look
  · exact good_weigh _ _
  · split
    · exact ((good_claim.trans (good_note 9 0)).trans (good_go 3)).le (by decide)
    · exact (good_claim.trans (good_go 0)).le (by decide)
  · exact good_back
  · exact good_turn _ _
  · exact (good_refl r).le (by decide)
theorem good_next {L : LS → LS} (hL : ∀ r : LS, r.Good (L r) 2) (r : LS) : r.Good (r.next L) 2 ∧ (r.next L).ns.length ≤ 2 := by
  unfold LS.next
  split
  · exact ⟨good_waking.le (by decide), Nat.zero_le _⟩
  · exact ⟨(good_fresh.trans (hL r.fresh)).le (by decide), Nat.le_trans (hL r.fresh).notes (by simp [LS.fresh])⟩
end
end Go.Proofs.YtdmpaoajcnjbaaaGreat
set_option linter.unusedVariables false
set_option linter.unusedSimpArgs false
namespace Go.Proofs.YtdmpaoajcnjbaaaGreat
open Go.RowKit
theorem flat_cells : ∀ (zs : List Nt) (u : Value), u ∈ flat zs → u.oneCell' = true
  | [], u, h => by simp [flat] at h
  | n :: r, u, h => by
    rw [flat, List.mem_append] at h
    rcases h with h | h
    · unfold flat1 at h
      simp only [List.mem_cons, List.not_mem_nil, or_false] at h
      rcases h with rfl | rfl | rfl | rfl <;> rfl
    · exact flat_cells r u h
theorem wp_appNs {w : World} {ops : Array Oper} {rest : List Oper} {o : Oper} {a : Act} {Q : Exit → Act → World → Prop} (hgd : o.guard = none) (s x : Operand)
    (ho : o.op = .call { callee := .builtin .append, args := #[s, x], argTypes := #[40, 40] })
    (base : Nat) (v : Value) (zs : List Nt) (hs : a.eval s = v) (hown : OwnN base w v zs)
    (u : Value) (ys : List Nt) (hx : a.eval x = u) (hu : OwnN 0 w u ys)
    (h1 : zs.length ≤ 4000) (h2 : ys.length ≤ 1000) (hbase : base ≤ w.heap.size)
    (h : ∀ v' w', OwnN base w' v' (zs ++ ys) → Only (fun k => v.ownBlock = some k) w w' → wpList Tryz.prog ops Q rest (a.put o.dst v') w') : wpList Tryz.prog ops Q (o :: rest) a w := by
  obtain ⟨i0, hi, hz0, hz1, hz2⟩ := info_parts infoN
  rcases hu.2 with ⟨rfl, hn⟩ | ⟨g, cap, cur, rfl, _, hg, hc, hm, hsz, ht⟩
  · obtain rfl := List.eq_nil_of_length_eq_zero hn
    refine wpList_append_own_none hgd s x 40 ho base 79 i0 4 Tryz.underlying40 hi v zs.length (flat zs) hs hown hx ?_
    exact h v w (by rw [List.append_nil]; exact hown) (Only.refl _ _)
  · refine wpList_append_own w hgd s x 40 ho base 79 i0 (.agg #[.int .i64 0, .int .i64 0, .int .i64 0, .int .i64 0]) 4 32 Tryz.underlying40 hi hz0 hz1 hz2 rfl (by decide) v zs.length (flat zs) hs hown ⟨g, 0, none⟩ ys.length cap (flat ys) hx (flat_len ys) (fun j u hj => World.ownsRow.cells hu (g := g) rfl j u hj) (fun u hu => flat_cells ys u hu) (by unfold maxLen; omega) (by omega) hbase (fun v' w' hO hG _ => ?_)
    refine h v' w' ?_ ((Only.refl _ w).grown hG (fun k hk => .inr hk))
    have e : (zs ++ ys).length = zs.length + ys.length := List.length_append
    unfold OwnN
    rw [e, flat_app]
    exact hO
end Go.Proofs.YtdmpaoajcnjbaaaGreat
set_option linter.unusedVariables false
set_option linter.unusedSimpArgs false
namespace Go.Proofs.YtdmpaoajcnjbaaaGreat
open Go.RowKit
structure AloneI (w0 : World) (B : Nat) (p A : Option Addr) (cp : Nat) (r0 : LS) (most j : Nat) (v : Value) (wr : World) : Prop where
  run : ∃ nv r, RunQ wr B p A cp nv r ∧ Words r.xs ∧ aloneL LS.tf most r0 = aloneL LS.tf (most - j) r
  notes : ∃ zs, OwnN w0.heap.size wr v zs ∧ zs.length ≤ 2 * j
  only : Only (At A) w0 wr
  new : w0.heap.size ≤ B
  old : ∀ j, At p j ∨ At A j → j < w0.heap.size
def AloneP (p A : Option Addr) (cp : Nat) (w : World) (t : Int × List Int) (e : Ending) (w' : World) : Prop := ∃ nv, e = .returned (.tuple #[.int .i64 t.1, nv]) ∧ Only (At A) w w' ∧ Memo w' p A cp t.2 ∧ Words t.2
theorem ownN_form {base : Nat} {w : World} {v : Value} {zs : List Nt} (h : OwnN base w v zs) : ∃ A n c, v = .slice A n c := by
  rcases h.2 with ⟨rfl, _⟩ | ⟨g, cap, cur, rfl, _⟩
  · exact ⟨none, 0, 0, rfl⟩
  · exact ⟨_, _, _, rfl⟩
set_option maxRecDepth 100000 in
set_option maxHeartbeats 2000000 in
theorem alone_any (p A : Option Addr) (cp : Nat) (k mode op : Int) (most : Nat) (xs : List Int) (w : World) (h : Memo w p A cp xs) (hx : Words xs) (hmost : most ≤ 1000) :
    Calls Tryz.prog 16 #[.pointer p, .int .i64 k, .int .i64 mode, .int .i64 op, .int .i64 most] w (AloneP p A cp w (aloneL LS.tf most (newR k mode 0 op xs))) := by
  have e0 := (Only.refl Nil w).alloc (.cells ((newR k mode 0 op xs).cells (.pointer p) (.slice none 0 0)) 42)
  have HI0 : Hid (AloneI w w.heap.size p A cp (newR k mode 0 op xs) most 0 (.slice none 0 0) (w.alloc (.cells ((newR k mode 0 op xs).cells (.pointer p) (.slice none 0 0)) 42))) :=
    Lib.hid ⟨⟨_, _, ⟨Row.new w _ _, h.keep e0⟩, hx, rfl⟩, ⟨[], ownN_nil _ _, Nat.zero_le _⟩, e0.mono (fun _ _ h => h.elim), Nat.le_refl _, h.lt⟩
  rw [show (newR k mode 0 op xs).cells (.pointer p) (.slice none 0 0) = newCells p k mode 0 op from rfl] at HI0
  unfold newCells at HI0
  clear e0 h hx
  generalize hr0 : newR k mode 0 op xs = r0 at *
  clear hr0
  go_enter Tryz.func16, Tryz.ntmps16
  go_upto_region 2 with (fail)
  generalize w.alloc (.cells #[.pointer p, .int .i64 k, .int .i64 mode, .int .i64 0, .int .i64 op, .int .i64 0, .int .u32 0, .int .u32 0, .int .i64 0, .bool false, .int .i64 0, .int .i64 0, .bool false, .int .i64 0, .int .i64 0, .int .i64 0, .int .u32 0, .int .u32 0, .int .u32 0, .slice none 0 0] 42) = w1 at *
  generalize hB : w.heap.size = B at *
  have HB := Lib.hid hB
  clear hB
  go_wp2_with fail
  go_loopw [13, 14] (fun nv i wr => ∃ j : Nat, j ≤ most ∧ i = .int .i64 j ∧ AloneI w B p A cp r0 most j nv wr) (fun _ i _ => most - (intOf i).toNat)
  case atStart => exact ⟨0, Nat.zero_le _, rfl, HI0.out⟩
  case round =>
    obtain ⟨j, hj, rfl, hI⟩ := hrel
    clear HI0
    obtain ⟨nvr, r, hQ, hW, hA⟩ := hI.run
    have HI := Lib.hid hI
    have HQ := Lib.hid hQ
    have HW := Lib.hid hW
    have HA := Lib.hid hA
    clear hI hQ hW hA
    by_cases hlt : j < most
    · go_wp2_with fail
      refine (tf_step B p A cp nvr r _ HQ.out HW.out).mono ?_
      obtain ⟨hg, hn2⟩ := good_next (L := LS.tf) (fun r => good_tf) r
      have HG := Lib.hid hg
      have HN2 := Lib.hid hn2
      clear hg hn2
      rintro e w2 ⟨rfl, hO, _, nv2, hP⟩
      have HO := Lib.hid hO
      have HP := Lib.hid hP
      clear hO hP
      obtain ⟨zs, hzs, hzl⟩ := HI.out.notes
      have HZ := Lib.hid (show OwnN w.heap.size w2 _ zs from own_only hzs HO.out (fun i hi e => by
        obtain ⟨cur, hc⟩ := ownN_tag hzs hi
        rcases e with e | e
        · exact row_ne hc HQ.out.row (by decide) e
        · exact memo_not HQ.out.memo hc (by decide) (by decide) (.inr e)))
      have HZL := Lib.hid hzl
      clear hzs hzl
      have HSTEP : Hid (aloneL LS.tf most r0 = if (r.next LS.tf).over then ((r.next LS.tf).ret, (r.next LS.tf).xs) else aloneL LS.tf (most - (j + 1)) (r.next LS.tf)) := Lib.hid (by
        rw [HA.out, show most - j = (most - (j + 1)) + 1 by omega]
        rfl)
      generalize r.next LS.tf = r2 at *
      have c19 : w2.cell? ⟨B, 19, none⟩ = some nv2 := HP.out.row.cell_ (i := 19) rfl
      have hbase : w.heap.size ≤ w2.heap.size := Nat.le_trans HI.out.only.size HO.out.size
      have HBA := Lib.hid hbase
      clear hbase
      go_wp2_with (at_builtin; refine wp_appNs rfl (.tmp 31) (.tmp 35) rfl w.heap.size _ _ (by rfl) HZ.out nv2 r2.ns (by rfl) HP.out.notes (by have := HZL.out; omega) (by have := HN2.out; omega) HBA.out ?_)
      intro v' w3 hown hO3
      clear c19
      have HRQ : Hid (RunQ w3 B p A cp nv2 r2) := Lib.hid ⟨HP.out.row.only hO3 (fun e => by
          obtain ⟨cur, hc⟩ := ownN_tag HZ.out e
          exact absurd (HP.out.row.same hc).1 (by decide)), HP.out.memo.far hO3 (fun j hj e => by
          obtain ⟨cur, hc⟩ := ownN_tag HZ.out e
          exact memo_not HP.out.memo hc (by decide) (by decide) hj)⟩
      have HO3 : Hid (Only (At A) w w3) := Lib.hid ((HI.out.only.step HO.out (fun i hi e => by
          rcases e with e | e
          · have := HI.out.new; omega
          · exact e)).step hO3 (fun i hi e => by
          have := (World.ownsRow.lt HZ.out i e).1
          omega))
      have HOW := Lib.hid hown
      obtain ⟨A9, n9, c9, rfl⟩ := ownN_form hown
      clear hown hO3
      have HNW := Lib.hid (HG.out.words HW.out)
      cases hov : r2.over
      · have HSTEP2 := Lib.hid (HSTEP.out.trans (by rw [hov, if_neg Bool.false_ne_true]))
        clear hov
        go_wp2
        go_roundw
        case rel => exact ⟨j + 1, by omega, by go_num, ⟨⟨nv2, r2, HRQ.out, HNW.out, HSTEP2.out⟩, ⟨_, HOW.out, by rw [List.length_append]; have := HZL.out; have := HN2.out; omega⟩, HO3.out, HI.out.new, HI.out.old⟩⟩
        case measure => simp [intOf]; omega
      · have HSTEP2 := Lib.hid (HSTEP.out.trans (by rw [hov, if_pos rfl]))
        clear hov
        have c13 : w3.cell? ⟨B, 13, none⟩ = some (.int .i64 r2.ret) := HRQ.out.row.cell_ (i := 13) rfl
        go_wp2
        go_ret2
        rw [HSTEP2.out]
        exact ⟨_, rfl, HO3.out, HRQ.out.memo, HNW.out⟩
    · obtain rfl : j = most := by omega
      have HE := Lib.hid (show aloneL LS.tf j r0 = (0, r.xs) by rw [HA.out, Nat.sub_self]; rfl)
      go_wp2
      go_ret2
      rw [HE.out]
      exact ⟨_, rfl, HI.out.only, HQ.out.memo, HW.out⟩
end Go.Proofs.YtdmpaoajcnjbaaaGreat
set_option linter.unusedVariables false
set_option linter.unusedSimpArgs false
namespace Go.Proofs.YtdmpaoajcnjbaaaGreat
open Go.RowKit
def Fresh (w : World) (xs : List Int) (e : Ending) (w' : World) : Prop := ∃ b A' c', e = .returned (.tuple #[.pointer (some ⟨b, 0, none⟩), .int .i64 0]) ∧ w.heap.size ≤ b ∧ (∀ i, At A' i → w.heap.size ≤ i) ∧ Mem w' b A' c' xs ∧ Only Nil w w'
theorem from_ok (A : Option Addr) (n cap : Nat) (xs : List Int) (w : World) (hm : n ≤ 1024) (h : Held w A n cap xs) :
    Calls Tryz.prog 5 #[.slice A n cap] w (Fresh w xs) := by
  have hl := h.1
  have hm' : (n : Int) ≤ 1024 := by omega
  have HH := Lib.hid h
  have HL := Lib.hid hl
  clear h hl
  go_enter Tryz.func5, Tryz.ntmps5
  go_wp2_with (go_at_call 18; refine (clone_held A n cap xs _ (by omega) HH.out).mono ?_; rintro e w1 ⟨A', c', rfl, ho, hO⟩)
  have HO := Lib.hid ho
  have HW := Lib.hid hO
  clear ho hO
  go_ret2
  refine ⟨w1.heap.size, A', c', rfl, HW.out.size, HO.out.base, ⟨Row.new w1 _ _, ?_, ?_⟩, HW.out.alloc _⟩
  · exact ⟨own_base (own_only HO.out.own ((Only.refl Nil w1).alloc _) (fun _ _ h => h)) (Nat.zero_le _), HO.out.nil, fun _ _ => Nat.zero_le _⟩
  · rw [HL.out]; exact hm
end Go.Proofs.YtdmpaoajcnjbaaaGreat
set_option linter.unusedVariables false
set_option linter.unusedSimpArgs false
namespace Go.Proofs.YtdmpaoajcnjbaaaGreat
open Go.RowKit
theorem load_raw (b : Nat) (A : Option Addr) (cp : Nat) (xs : List Int) (c : Int) (w : World) (h : Mem w b A cp xs) :
    Calls Tryz.prog 17 #[.pointer (some ⟨b, 0, none⟩), .int .i64 c] w fun e w' => e = .returned (.int .u32 (wordAt xs c)) ∧ Only (At A) w w' ∧ Mem w' b A cp (doNew xs 1 c 0 0) := by
  have HH := Lib.hid h
  clear h
  go_enter Tryz.func17, Tryz.ntmps17
  go_wp2_with fail
  refine (do_any b A cp xs 1 c 0 0 0 _ HH.out).mono ?_
  obtain ⟨k', c', x', y', hv⟩ := doVal_form xs 1 c 0 0
  rw [oldAt xs 1 c rfl] at hv
  rintro e w1 ⟨rfl, hO, hM⟩
  rw [hv]
  have HO := Lib.hid hO
  have HM := Lib.hid hM
  clear hO hM hv
  go_wp2
  go_ret
  exact ⟨rfl, HO.out.alloc _, HM.out.only ((Only.refl Nil w1).alloc _) id (fun _ _ => id)⟩
theorem load_any (b : Nat) (A : Option Addr) (cp : Nat) (xs : List Int) (c : Int) (w : World) (h : Mem w b A cp xs) :
    Calls Tryz.prog 17 #[.pointer (some ⟨b, 0, none⟩), .int .i64 c] w fun e w' => e = .returned (.int .u32 (wordAt xs c)) ∧ Only (At A) w w' ∧ Mem w' b A cp xs :=
  (load_raw b A cp xs c w h).mono fun _ _ ⟨h1, h2, h3⟩ => ⟨h1, h2, by rw [doNew_load] at h3; exact h3⟩
end Go.Proofs.YtdmpaoajcnjbaaaGreat
set_option linter.unusedVariables false
set_option linter.unusedSimpArgs false
namespace Go.Proofs.YtdmpaoajcnjbaaaGreat
open Go.RowKit
structure Made (w0 : World) (b : Nat) (A : Option Addr) (cp : Nat) (xs : List Int) (W : World) : Prop where
  mem : Mem W b A cp xs
  new : ∀ j, At A j → w0.heap.size ≤ j
  only : Only Nil w0 W
theorem Made.call {w0 W W' : World} {b : Nat} {A : Option Addr} {cp : Nat} {xs ys : List Int} (h : Made w0 b A cp xs W) (ho : Only (At A) W W') (hm : Mem W' b A cp ys) : Made w0 b A cp ys W' :=
  ⟨hm, h.new, h.only.step ho (fun i hi e => by have := h.new i e; omega)⟩
theorem aw_alone {m : Nat} (h : m = 3) : aloneL LS.tf m (newR (1 : Nat) 1 0 1 ((⟨0, 0, 0⟩ : T3).xs 1)) = (2, (⟨1, 1, 0⟩ : T3).xs 1) := by
  subst h
  decide
set_option maxHeartbeats 1000000 in
theorem awake_any (w : World) : Calls Tryz.prog 4 #[] w fun e w' => e = .returned (.bool true) ∧ Only Nil w w' := by
  go_enter Tryz.func4, Tryz.ntmps4
  go_wp2_with fail
  refine (first_tf 1 0 _ (by decide) (by decide)).mono ?_
  rintro e w1 ⟨g, rfl, hg, hH, hO⟩
  have HH := Lib.hid hH
  have HO := Lib.hid hO
  clear hg hH hO
  go_wp2_with fail
  refine (from_ok _ _ _ _ _ (by decide) HH.out).mono ?_
  rintro e w2 ⟨b, A', c', rfl, hb, hA, hM, hO⟩
  have HM : Hid (Made w b A' c' _ w2) := Lib.hid ⟨hM, fun j hj => Nat.le_trans HO.out.size (hA j hj), HO.out.trans hO⟩
  clear hb hA hM hO HO HH
  go_wp2_with fail
  refine (alone_any (some ⟨b, 0, none⟩) A' c' 1 1 1 3 _ _ (Memo.of HM.out.mem) (T3.words (by decide) (by decide) (by decide)) (by decide)).mono ?_
  rw [show aloneL LS.tf 3 (newR 1 1 0 1 ((⟨0, 0, 0⟩ : T3).xs 1)) = (2, (⟨1, 1, 0⟩ : T3).xs 1) from aw_alone rfl]
  rintro e w3 ⟨nv, rfl, hO, hM, _⟩
  have HM3 := Lib.hid (HM.out.call hO hM.mem)
  clear hO hM HM
  go_wp2_with fail
  refine (load_any b A' c' _ 0 _ HM3.out.mem).mono ?_
  rw [show wordAt ((⟨1, 1, 0⟩ : T3).xs 1) 0 = 1 from rfl]
  rintro e w4 ⟨rfl, hO, hM⟩
  have HM4 := Lib.hid (HM3.out.call hO hM)
  clear hO hM HM3
  go_wp2_with fail
  refine (load_any b A' c' _ 1 _ HM4.out.mem).mono ?_
  rw [show wordAt ((⟨1, 1, 0⟩ : T3).xs 1) 1 = 1 from rfl]
  rintro e w5 ⟨rfl, hO, hM⟩
  have HM5 := Lib.hid (HM4.out.call hO hM)
  clear hO hM HM4
  go_wp2_with fail
  refine (load_any b A' c' _ 2 _ HM5.out.mem).mono ?_
  rw [show wordAt ((⟨1, 1, 0⟩ : T3).xs 1) 2 = 0 from rfl]
  rintro e w6 ⟨rfl, hO, hM⟩
  have HM6 := Lib.hid (HM5.out.call hO hM)
  clear hO hM HM5
  go_wp2
  go_ret
  exact ⟨rfl, HM6.out.only⟩
end Go.Proofs.YtdmpaoajcnjbaaaGreat
set_option linter.unusedVariables false
set_option linter.unusedSimpArgs false
namespace Go.Proofs.YtdmpaoajcnjbaaaGreat
open Go.RowKit
def codeOps (n : Nat) : Code → Option (Array Oper)
  | .region id ops _ => if id = n then some ops else none
  | .seq a b => (match codeOps n a with | some o => some o | none => codeOps n b)
  | .cond _ t e => (match codeOps n t with | some o => some o | none => codeOps n e)
  | .block _ b => codeOps n b
  | .loop b => codeOps n b
  | .scope b => codeOps n b
  | _ => none
def regOps (f : Func) (n : Nat) : Array Oper := match f.body with | some c => (codeOps n c).getD #[] | none => #[]
theorem sel12 : Region.noSelect (regOps Tryz.f3 12) = true := by kernel_rfl
theorem free12 : freeB .any (regOps Tryz.f3 12) = true := by kernel_rfl
theorem reg_intro2 {P : Program} {Q : Exit → Act → World → Prop} {a : Act} {w : World} {id : Nat} {ops ops' : Array Oper} (h : ops = ops') (hs : Region.noSelect ops = true) (hf : freeB .any ops = true) (k : Region.noSelect ops' = true → freeB .any ops' = true → (Code.region id ops' true).wp P Q a w) : (Code.region id ops true).wp P Q a w := by subst h; exact k hs hf
set_option maxRecDepth 100000 in
set_option maxHeartbeats 8000000 in
theorem cmp_same {K : Act → World → Prop} {Q' : Exit → Act → World → Prop} (x0 x1 x2 x3 x4 x5 x6 x7 x8 x9 x10 x12 x16 x17 x18 x19 x20 x21 x22 x23 x24 x25 x26 x27 x28 x29 x30 x31 x32 x33 x34 x35 x36 x37 x38 x39 x40 x41 x42 x43 x44 x45 x46 x47 x48 x49 x50 x51 x52 x53 x54 x55 x56 x57 x58 x59 x60 x61 x62 x63 x64 x65 x66 x67 x68 x69 x70 x71 x72 x73 x74 x75 x76 x77 x78 x79 x80 x81 x82 x83 x84 x85 x86 x87 x88 x89 x90 x91 x92 x93 x94 x95 x96 x97 x98 x99 : Value) (w w12 : World) (B B' M b l c' c2 : Nat) (A' A2 : Option Addr) (nvp nvr : Value) (r' : LS)
    (HRD : Hid (Two w B B' M (some ⟨b, 0, none⟩) A' A2 c' l c2 nvp nvr r' r' w12)) (hl : l ≤ 1024) (hns : r'.ns.length ≤ 100)
    (hq : ∀ c a (d : Tmp) v w, Q' (.panic c) (a.put (some d) v) w → Q' (.panic c) a w) (h : ∀ (v51 v52 v53 v54 v55 v56 v57 v58 v59 v60 v61 v62 v63 v64 v65 v66 v67 v68 v69 v70 v71 v72 v73 v74 v75 v76 v77 v78 v79 v80 v81 v82 v83 v84 v85 v86 v87 v88 v89 v90 v91 v92 v93 v94 v95 v96 v97 v98 v99 : Value) (w' : World), Only Nil w w' → K ⟨#[x0, x1, x2, x3, x4, x5, x6, x7, x8, x9, .bool true, .pointer (some ⟨b, 0, none⟩), x12, .pointer (some ⟨B, 0, none⟩), .pointer (some ⟨B', 0, none⟩), .bool r'.over, x16, x17, x18, x19, x20, x21, x22, x23, x24, x25, x26, x27, x28, x29, x30, x31, x32, x33, x34, x35, x36, x37, x38, x39, x40, x41, x42, x43, x44, x45, x46, x47, x48, x49, x50, v51, v52, v53, v54, v55, v56, v57, v58, v59, v60, v61, v62, v63, v64, v65, v66, v67, v68, v69, v70, v71, v72, v73, v74, v75, v76, v77, v78, v79, v80, v81, v82, v83, v84, v85, v86, v87, v88, v89, v90, v91, v92, v93, v94, v95, v96, v97, v98, v99], []⟩ w') :
    (Code.region 12 (regOps Tryz.f3 12) true).wp Tryz.prog (Exit.then K Q') ⟨#[x0, x1, x2, x3, x4, x5, x6, x7, x8, x9, x10, .pointer (some ⟨b, 0, none⟩), x12, .pointer (some ⟨B, 0, none⟩), .pointer (some ⟨B', 0, none⟩), .bool r'.over, x16, x17, x18, x19, x20, x21, x22, x23, x24, x25, x26, x27, x28, x29, x30, x31, x32, x33, x34, x35, x36, x37, x38, x39, x40, x41, x42, x43, x44, x45, x46, x47, x48, x49, x50, x51, x52, x53, x54, x55, x56, x57, x58, x59, x60, x61, x62, x63, x64, x65, x66, x67, x68, x69, x70, x71, x72, x73, x74, x75, x76, x77, x78, x79, x80, x81, x82, x83, x84, x85, x86, x87, x88, x89, x90, x91, x92, x93, x94, x95, x96, x97, x98, x99], []⟩ w12 := by
  have hfr0 := free12
  have hsel0 := sel12
  refine reg_intro2 (rfl : _ = List.toArray (_ :: _ :: _ :: _ :: _ :: _ :: _ :: _ :: _ :: _ :: _ :: _ :: _ :: _ :: _ :: _ :: _ :: _ :: _ :: _ :: _ :: _ :: _ :: _ :: _ :: _ :: _ :: _ :: _ :: _ :: _ :: _ :: _ :: _ :: _ :: _ :: _ :: _ :: _ :: _ :: _ :: _ :: _ :: _ :: _ :: _ :: _ :: _ :: _ :: _ :: [])) hsel0 hfr0 (fun hsel hfr => ?_)
  clear hfr0 hsel0
  refine wp_region_phase (n := 50) 47 (fun W => Two w B B' M (some ⟨b, 0, none⟩) A' A2 c' l c2 nvp nvr r' r' W) rfl (by kernel_rfl) (HRD.out.keep (Only.refl Nil w12).drew) (fun hHeld => ?_)
  have HRD1 := Lib.hid (HRD.out.keep (Only.refl Nil w12).drew)
  clear HRD
  generalize w12.drew = w13 at *
  refine with_cl (fun hC => ?_)
  refine mqa 0 rfl (.bool r'.over) hsel hfr hC (by kernel_rfl) (by decide) (fun _ _ _ h => hq _ _ _ _ _ h) (by rfl) (fun w => ?_) (by first | (right; assumption) | (left; kernel_rfl)) (fun hC2 => ?_)
  · go_simp
  clear hC
  have hC := hC2
  clear hC2
  (try simp only [Act.put, k1, k2, k3])
  refine mqa 1 rfl (.pointer (some ⟨B', 0, none⟩)) hsel hfr hC (by kernel_rfl) (by decide) (fun _ _ _ h => hq _ _ _ _ _ h) (by rfl) (fun w => ?_) (by first | (right; assumption) | (left; kernel_rfl)) (fun hC2 => ?_)
  · go_simp
  clear hC
  have hC := hC2
  clear hC2
  (try simp only [Act.put, k1, k2, k3])
  refine mqc 2 rfl hC (by kernel_rfl) (by rfl) (fun K hK => ?_)
  go_simp
  refine (rover_run B' M A2 l c2 nvr r' _ HRD1.out.hr).mono ?_
  rintro e w14 ⟨rfl, hw⟩
  have hO : Only Nil w13 w14 := hw ▸ Only.refl Nil w13
  clear hw
  have HRD2 := Lib.hid (HRD1.out.keep hO)
  refine hK.out _ _ (.inr HRD2.out) (fun hC2 => ?_)
  have hHeld2 := HRD2.out
  clear hK K hHeld hO HRD1 hC
  have hC := hC2
  clear hC2
  have HRD1 := HRD2
  have hHeld := hHeld2
  clear HRD2 hHeld2
  (try simp only [Act.put, k1, k2, k3])
  refine mqa 3 rfl (.bool true) hsel hfr hC (by kernel_rfl) (by decide) (fun _ _ _ h => hq _ _ _ _ _ h) (by rfl) (fun w => ?_) (by first | (right; assumption) | (left; kernel_rfl)) (fun hC2 => ?_)
  · go_simp
  clear hC
  have hC := hC2
  clear hC2
  (try simp only [Act.put, k1, k2, k3])
  refine mqa 4 rfl (.bool true) hsel hfr hC (by kernel_rfl) (by decide) (fun _ _ _ h => hq _ _ _ _ _ h) (by rfl) (fun w => ?_) (by first | (right; assumption) | (left; kernel_rfl)) (fun hC2 => ?_)
  · go_simp
  clear hC
  have hC := hC2
  clear hC2
  (try simp only [Act.put, k1, k2, k3])
  refine mqa 5 rfl (.pointer (some ⟨B, 0, none⟩)) hsel hfr hC (by kernel_rfl) (by decide) (fun _ _ _ h => hq _ _ _ _ _ h) (by rfl) (fun w => ?_) (by first | (right; assumption) | (left; kernel_rfl)) (fun hC2 => ?_)
  · go_simp
  clear hC
  have hC := hC2
  clear hC2
  (try simp only [Act.put, k1, k2, k3])
  refine mqa 6 rfl (.pointer (some ⟨B, 0, none⟩)) hsel hfr hC (by kernel_rfl) (by decide) (fun _ _ _ h => hq _ _ _ _ _ h) (by rfl) (fun w => ?_) (by first | (right; assumption) | (left; kernel_rfl)) (fun hC2 => ?_)
  · go_simp
  clear hC
  have hC := hC2
  clear hC2
  (try simp only [Act.put, k1, k2, k3])
  refine mqa 7 rfl (.pointer (some ⟨B, 4, none⟩)) hsel hfr hC (by kernel_rfl) (by decide) (fun _ _ _ h => hq _ _ _ _ _ h) (by rfl) (fun w => ?_) (by first | (right; assumption) | (left; kernel_rfl)) (fun hC2 => ?_)
  · go_simp
  clear hC
  have hC := hC2
  clear hC2
  (try simp only [Act.put, k1, k2, k3])
  refine mqt 8 rfl [13, 14, 15, 26, 35, 37, 44, 46] (.agg #[.int .i64 r'.op, .int .i64 r'.line, .int .u32 r'.a, .int .u32 r'.b, .int .i64 r'.s, .bool r'.k.on, .int .i64 r'.k.c, .int .i64 r'.k.i, .bool r'.k.hit, .int .i64 r'.ret]) hsel hfr hC (by kernel_rfl) (by kernel_rfl) (fun _ _ _ h => hq _ _ _ _ _ h) (by rfl) (fun w hSw => ?_) (by assumption) (fun hC2 => ?_)
  · (try dsimp only at hSw)
    have x4 : w.cell? ⟨B, 4, none⟩ = some (.int .i64 r'.op) := hSw.hp.row.cell_ (i := 4) rfl
    have x5 : w.cell? ⟨B, 5, none⟩ = some (.int .i64 r'.line) := hSw.hp.row.cell_ (i := 5) rfl
    have x6 : w.cell? ⟨B, 6, none⟩ = some (.int .u32 r'.a) := hSw.hp.row.cell_ (i := 6) rfl
    have x7 : w.cell? ⟨B, 7, none⟩ = some (.int .u32 r'.b) := hSw.hp.row.cell_ (i := 7) rfl
    have x8 : w.cell? ⟨B, 8, none⟩ = some (.int .i64 r'.s) := hSw.hp.row.cell_ (i := 8) rfl
    have x9 : w.cell? ⟨B, 9, none⟩ = some (.bool r'.k.on) := hSw.hp.row.cell_ (i := 9) rfl
    have x10 : w.cell? ⟨B, 10, none⟩ = some (.int .i64 r'.k.c) := hSw.hp.row.cell_ (i := 10) rfl
    have x11 : w.cell? ⟨B, 11, none⟩ = some (.int .i64 r'.k.i) := hSw.hp.row.cell_ (i := 11) rfl
    have x12 : w.cell? ⟨B, 12, none⟩ = some (.bool r'.k.hit) := hSw.hp.row.cell_ (i := 12) rfl
    have x13 : w.cell? ⟨B, 13, none⟩ = some (.int .i64 r'.ret) := hSw.hp.row.cell_ (i := 13) rfl
    go_simp
  clear hC
  have hC := hC2
  clear hC2
  (try simp only [Act.put, k1, k2, k3])
  refine mqa 9 rfl (.pointer (some ⟨B', 0, none⟩)) hsel hfr hC (by kernel_rfl) (by decide) (fun _ _ _ h => hq _ _ _ _ _ h) (by rfl) (fun w => ?_) (by first | (right; assumption) | (left; kernel_rfl)) (fun hC2 => ?_)
  · go_simp
  clear hC
  have hC := hC2
  clear hC2
  (try simp only [Act.put, k1, k2, k3])
  refine mqa 10 rfl (.pointer (some ⟨B', 0, none⟩)) hsel hfr hC (by kernel_rfl) (by decide) (fun _ _ _ h => hq _ _ _ _ _ h) (by rfl) (fun w => ?_) (by first | (right; assumption) | (left; kernel_rfl)) (fun hC2 => ?_)
  · go_simp
  clear hC
  have hC := hC2
  clear hC2
  (try simp only [Act.put, k1, k2, k3])
  refine mqa 11 rfl (.pointer (some ⟨B', 4, none⟩)) hsel hfr hC (by kernel_rfl) (by decide) (fun _ _ _ h => hq _ _ _ _ _ h) (by rfl) (fun w => ?_) (by first | (right; assumption) | (left; kernel_rfl)) (fun hC2 => ?_)
  · go_simp
  clear hC
  have hC := hC2
  clear hC2
  (try simp only [Act.put, k1, k2, k3])
  refine mqt 12 rfl [13, 14, 15, 26, 35, 37, 44, 46] (.agg #[.int .i64 r'.op, .int .i64 r'.line, .int .u32 r'.a, .int .u32 r'.b, .int .i64 r'.s, .bool r'.k.on, .int .i64 r'.k.c, .int .i64 r'.k.i, .bool r'.k.hit, .int .i64 r'.ret]) hsel hfr hC (by kernel_rfl) (by kernel_rfl) (fun _ _ _ h => hq _ _ _ _ _ h) (by rfl) (fun w hSw => ?_) (by assumption) (fun hC2 => ?_)
  · (try dsimp only at hSw)
    have x4 : w.cell? ⟨B', 4, none⟩ = some (.int .i64 r'.op) := hSw.hr.row.cell_ (i := 4) rfl
    have x5 : w.cell? ⟨B', 5, none⟩ = some (.int .i64 r'.line) := hSw.hr.row.cell_ (i := 5) rfl
    have x6 : w.cell? ⟨B', 6, none⟩ = some (.int .u32 r'.a) := hSw.hr.row.cell_ (i := 6) rfl
    have x7 : w.cell? ⟨B', 7, none⟩ = some (.int .u32 r'.b) := hSw.hr.row.cell_ (i := 7) rfl
    have x8 : w.cell? ⟨B', 8, none⟩ = some (.int .i64 r'.s) := hSw.hr.row.cell_ (i := 8) rfl
    have x9 : w.cell? ⟨B', 9, none⟩ = some (.bool r'.k.on) := hSw.hr.row.cell_ (i := 9) rfl
    have x10 : w.cell? ⟨B', 10, none⟩ = some (.int .i64 r'.k.c) := hSw.hr.row.cell_ (i := 10) rfl
    have x11 : w.cell? ⟨B', 11, none⟩ = some (.int .i64 r'.k.i) := hSw.hr.row.cell_ (i := 11) rfl
    have x12 : w.cell? ⟨B', 12, none⟩ = some (.bool r'.k.hit) := hSw.hr.row.cell_ (i := 12) rfl
    have x13 : w.cell? ⟨B', 13, none⟩ = some (.int .i64 r'.ret) := hSw.hr.row.cell_ (i := 13) rfl
    go_simp
  clear hC
  have hC := hC2
  clear hC2
  (try simp only [Act.put, k1, k2, k3])
  refine mqa 13 rfl (.bool true) hsel hfr hC (by kernel_rfl) (by decide) (fun _ _ _ h => hq _ _ _ _ _ h) (by rfl) (fun w => ?_) (by first | (right; assumption) | (left; kernel_rfl)) (fun hC2 => ?_)
  · go_simp
  clear hC
  have hC := hC2
  clear hC2
  (try simp only [Act.put, k1, k2, k3])
  refine mqa 14 rfl (.bool true) hsel hfr hC (by kernel_rfl) (by decide) (fun _ _ _ h => hq _ _ _ _ _ h) (by rfl) (fun w => ?_) (by first | (right; assumption) | (left; kernel_rfl)) (fun hC2 => ?_)
  · go_simp
  clear hC
  have hC := hC2
  clear hC2
  (try simp only [Act.put, k1, k2, k3])
  refine mqa 15 rfl (.bool true) hsel hfr hC (by kernel_rfl) (by decide) (fun _ _ _ h => hq _ _ _ _ _ h) (by rfl) (fun w => ?_) (by first | (right; assumption) | (left; kernel_rfl)) (fun hC2 => ?_)
  · go_simp
  clear hC
  have hC := hC2
  clear hC2
  (try simp only [Act.put, k1, k2, k3])
  refine mqa 16 rfl (.pointer (some ⟨B, 0, none⟩)) hsel hfr hC (by kernel_rfl) (by decide) (fun _ _ _ h => hq _ _ _ _ _ h) (by rfl) (fun w => ?_) (by first | (right; assumption) | (left; kernel_rfl)) (fun hC2 => ?_)
  · go_simp
  clear hC
  have hC := hC2
  clear hC2
  (try simp only [Act.put, k1, k2, k3])
  refine mqa 17 rfl (.pointer (some ⟨B, 0, none⟩)) hsel hfr hC (by kernel_rfl) (by decide) (fun _ _ _ h => hq _ _ _ _ _ h) (by rfl) (fun w => ?_) (by first | (right; assumption) | (left; kernel_rfl)) (fun hC2 => ?_)
  · go_simp
  clear hC
  have hC := hC2
  clear hC2
  (try simp only [Act.put, k1, k2, k3])
  refine mqa 18 rfl (.pointer (some ⟨B, 14, none⟩)) hsel hfr hC (by kernel_rfl) (by decide) (fun _ _ _ h => hq _ _ _ _ _ h) (by rfl) (fun w => ?_) (by first | (right; assumption) | (left; kernel_rfl)) (fun hC2 => ?_)
  · go_simp
  clear hC
  have hC := hC2
  clear hC2
  (try simp only [Act.put, k1, k2, k3])
  refine mqt 19 rfl [24, 25, 26, 35, 37, 44, 46] (.agg #[.int .i64 r'.acc.k, .int .i64 r'.acc.c, .int .u32 r'.acc.x, .int .u32 r'.acc.y, .int .u32 r'.acc.o]) hsel hfr hC (by kernel_rfl) (by kernel_rfl) (fun _ _ _ h => hq _ _ _ _ _ h) (by rfl) (fun w hSw => ?_) (by assumption) (fun hC2 => ?_)
  · (try dsimp only at hSw)
    have x14 : w.cell? ⟨B, 14, none⟩ = some (.int .i64 r'.acc.k) := hSw.hp.row.cell_ (i := 14) rfl
    have x15 : w.cell? ⟨B, 15, none⟩ = some (.int .i64 r'.acc.c) := hSw.hp.row.cell_ (i := 15) rfl
    have x16 : w.cell? ⟨B, 16, none⟩ = some (.int .u32 r'.acc.x) := hSw.hp.row.cell_ (i := 16) rfl
    have x17 : w.cell? ⟨B, 17, none⟩ = some (.int .u32 r'.acc.y) := hSw.hp.row.cell_ (i := 17) rfl
    have x18 : w.cell? ⟨B, 18, none⟩ = some (.int .u32 r'.acc.o) := hSw.hp.row.cell_ (i := 18) rfl
    go_simp
  clear hC
  have hC := hC2
  clear hC2
  (try simp only [Act.put, k1, k2, k3])
  refine mqa 20 rfl (.pointer (some ⟨B', 0, none⟩)) hsel hfr hC (by kernel_rfl) (by decide) (fun _ _ _ h => hq _ _ _ _ _ h) (by rfl) (fun w => ?_) (by first | (right; assumption) | (left; kernel_rfl)) (fun hC2 => ?_)
  · go_simp
  clear hC
  have hC := hC2
  clear hC2
  (try simp only [Act.put, k1, k2, k3])
  refine mqa 21 rfl (.pointer (some ⟨B', 0, none⟩)) hsel hfr hC (by kernel_rfl) (by decide) (fun _ _ _ h => hq _ _ _ _ _ h) (by rfl) (fun w => ?_) (by first | (right; assumption) | (left; kernel_rfl)) (fun hC2 => ?_)
  · go_simp
  clear hC
  have hC := hC2
  clear hC2
  (try simp only [Act.put, k1, k2, k3])
  refine mqa 22 rfl (.pointer (some ⟨B', 14, none⟩)) hsel hfr hC (by kernel_rfl) (by decide) (fun _ _ _ h => hq _ _ _ _ _ h) (by rfl) (fun w => ?_) (by first | (right; assumption) | (left; kernel_rfl)) (fun hC2 => ?_)
  · go_simp
  clear hC
  have hC := hC2
  clear hC2
  (try simp only [Act.put, k1, k2, k3])
  refine mqt 23 rfl [24, 25, 26, 35, 37, 44, 46] (.agg #[.int .i64 r'.acc.k, .int .i64 r'.acc.c, .int .u32 r'.acc.x, .int .u32 r'.acc.y, .int .u32 r'.acc.o]) hsel hfr hC (by kernel_rfl) (by kernel_rfl) (fun _ _ _ h => hq _ _ _ _ _ h) (by rfl) (fun w hSw => ?_) (by assumption) (fun hC2 => ?_)
  · (try dsimp only at hSw)
    have x14 : w.cell? ⟨B', 14, none⟩ = some (.int .i64 r'.acc.k) := hSw.hr.row.cell_ (i := 14) rfl
    have x15 : w.cell? ⟨B', 15, none⟩ = some (.int .i64 r'.acc.c) := hSw.hr.row.cell_ (i := 15) rfl
    have x16 : w.cell? ⟨B', 16, none⟩ = some (.int .u32 r'.acc.x) := hSw.hr.row.cell_ (i := 16) rfl
    have x17 : w.cell? ⟨B', 17, none⟩ = some (.int .u32 r'.acc.y) := hSw.hr.row.cell_ (i := 17) rfl
    have x18 : w.cell? ⟨B', 18, none⟩ = some (.int .u32 r'.acc.o) := hSw.hr.row.cell_ (i := 18) rfl
    go_simp
  clear hC
  have hC := hC2
  clear hC2
  (try simp only [Act.put, k1, k2, k3])
  refine mqa 24 rfl (.bool true) hsel hfr hC (by kernel_rfl) (by decide) (fun _ _ _ h => hq _ _ _ _ _ h) (by rfl) (fun w => ?_) (by first | (right; assumption) | (left; kernel_rfl)) (fun hC2 => ?_)
  · go_simp
  clear hC
  have hC := hC2
  clear hC2
  (try simp only [Act.put, k1, k2, k3])
  refine mqa 25 rfl (.bool true) hsel hfr hC (by kernel_rfl) (by decide) (fun _ _ _ h => hq _ _ _ _ _ h) (by rfl) (fun w => ?_) (by first | (right; assumption) | (left; kernel_rfl)) (fun hC2 => ?_)
  · go_simp
  clear hC
  have hC := hC2
  clear hC2
  (try simp only [Act.put, k1, k2, k3])
  refine mqa 26 rfl (.bool true) hsel hfr hC (by kernel_rfl) (by decide) (fun _ _ _ h => hq _ _ _ _ _ h) (by rfl) (fun w => ?_) (by first | (right; assumption) | (left; kernel_rfl)) (fun hC2 => ?_)
  · go_simp
  clear hC
  have hC := hC2
  clear hC2
  (try simp only [Act.put, k1, k2, k3])
  refine mqa 27 rfl (.pointer (some ⟨B, 0, none⟩)) hsel hfr hC (by kernel_rfl) (by decide) (fun _ _ _ h => hq _ _ _ _ _ h) (by rfl) (fun w => ?_) (by first | (right; assumption) | (left; kernel_rfl)) (fun hC2 => ?_)
  · go_simp
  clear hC
  have hC := hC2
  clear hC2
  (try simp only [Act.put, k1, k2, k3])
  refine mqa 28 rfl (.pointer (some ⟨B, 0, none⟩)) hsel hfr hC (by kernel_rfl) (by decide) (fun _ _ _ h => hq _ _ _ _ _ h) (by rfl) (fun w => ?_) (by first | (right; assumption) | (left; kernel_rfl)) (fun hC2 => ?_)
  · go_simp
  clear hC
  have hC := hC2
  clear hC2
  (try simp only [Act.put, k1, k2, k3])
  refine mqa 29 rfl (.pointer (some ⟨B, 19, none⟩)) hsel hfr hC (by kernel_rfl) (by decide) (fun _ _ _ h => hq _ _ _ _ _ h) (by rfl) (fun w => ?_) (by first | (right; assumption) | (left; kernel_rfl)) (fun hC2 => ?_)
  · go_simp
  clear hC
  have hC := hC2
  clear hC2
  (try simp only [Act.put, k1, k2, k3])
  refine mqt 30 rfl [35, 37, 44, 46] (nvp) hsel hfr hC (by kernel_rfl) (by kernel_rfl) (fun _ _ _ h => hq _ _ _ _ _ h) (by rfl) (fun w hSw => ?_) (by assumption) (fun hC2 => ?_)
  · (try dsimp only at hSw)
    have x19 : w.cell? ⟨B, 19, none⟩ = some (nvp) := hSw.hp.row.cell_ (i := 19) rfl
    go_simp
  clear hC
  have hC := hC2
  clear hC2
  (try simp only [Act.put, k1, k2, k3])
  refine mqa 31 rfl (.pointer (some ⟨B', 0, none⟩)) hsel hfr hC (by kernel_rfl) (by decide) (fun _ _ _ h => hq _ _ _ _ _ h) (by rfl) (fun w => ?_) (by first | (right; assumption) | (left; kernel_rfl)) (fun hC2 => ?_)
  · go_simp
  clear hC
  have hC := hC2
  clear hC2
  (try simp only [Act.put, k1, k2, k3])
  refine mqa 32 rfl (.pointer (some ⟨B', 0, none⟩)) hsel hfr hC (by kernel_rfl) (by decide) (fun _ _ _ h => hq _ _ _ _ _ h) (by rfl) (fun w => ?_) (by first | (right; assumption) | (left; kernel_rfl)) (fun hC2 => ?_)
  · go_simp
  clear hC
  have hC := hC2
  clear hC2
  (try simp only [Act.put, k1, k2, k3])
  refine mqa 33 rfl (.pointer (some ⟨B', 19, none⟩)) hsel hfr hC (by kernel_rfl) (by decide) (fun _ _ _ h => hq _ _ _ _ _ h) (by rfl) (fun w => ?_) (by first | (right; assumption) | (left; kernel_rfl)) (fun hC2 => ?_)
  · go_simp
  clear hC
  have hC := hC2
  clear hC2
  (try simp only [Act.put, k1, k2, k3])
  refine mqt 34 rfl [35, 37, 44, 46] (nvr) hsel hfr hC (by kernel_rfl) (by kernel_rfl) (fun _ _ _ h => hq _ _ _ _ _ h) (by rfl) (fun w hSw => ?_) (by assumption) (fun hC2 => ?_)
  · (try dsimp only at hSw)
    have x19 : w.cell? ⟨B', 19, none⟩ = some (nvr) := hSw.hr.row.cell_ (i := 19) rfl
    go_simp
  clear hC
  have hC := hC2
  clear hC2
  (try simp only [Act.put, k1, k2, k3])
  refine mqc 35 rfl hC (by kernel_rfl) (by rfl) (fun K hK => ?_)
  go_simp
  refine (same_notes nvp nvr r'.ns _ HRD1.out.hp.notes.list HRD1.out.hr.notes.list hns).mono ?_
  rintro e w16 ⟨rfl, hO⟩
  have HRD2 := Lib.hid (HRD1.out.keep hO)
  refine hK.out _ _ (.inr HRD2.out) (fun hC2 => ?_)
  have hHeld2 := HRD2.out
  clear hK K hHeld hO HRD1 hC
  have hC := hC2
  clear hC2
  have HRD1 := HRD2
  have hHeld := hHeld2
  clear HRD2 hHeld2
  (try simp only [Act.put, k1, k2, k3])
  refine mqa 36 rfl (.bool true) hsel hfr hC (by kernel_rfl) (by decide) (fun _ _ _ h => hq _ _ _ _ _ h) (by rfl) (fun w => ?_) (by first | (right; assumption) | (left; kernel_rfl)) (fun hC2 => ?_)
  · go_simp
  clear hC
  have hC := hC2
  clear hC2
  (try simp only [Act.put, k1, k2, k3])
  refine mqa 37 rfl (.bool true) hsel hfr hC (by kernel_rfl) (by decide) (fun _ _ _ h => hq _ _ _ _ _ h) (by rfl) (fun w => ?_) (by first | (right; assumption) | (left; kernel_rfl)) (fun hC2 => ?_)
  · go_simp
  clear hC
  have hC := hC2
  clear hC2
  (try simp only [Act.put, k1, k2, k3])
  refine mqa 38 rfl (.pointer (some ⟨b, 0, none⟩)) hsel hfr hC (by kernel_rfl) (by decide) (fun _ _ _ h => hq _ _ _ _ _ h) (by rfl) (fun w => ?_) (by first | (right; assumption) | (left; kernel_rfl)) (fun hC2 => ?_)
  · go_simp
  clear hC
  have hC := hC2
  clear hC2
  (try simp only [Act.put, k1, k2, k3])
  refine mqa 40 rfl (.pointer (some ⟨B', 0, none⟩)) hsel hfr hC (by kernel_rfl) (by decide) (fun _ _ _ h => hq _ _ _ _ _ h) (by rfl) (fun w => ?_) (by first | (right; assumption) | (left; kernel_rfl)) (fun hC2 => ?_)
  · go_simp
  clear hC
  have hC := hC2
  clear hC2
  (try simp only [Act.put, k1, k2, k3])
  refine mqa 41 rfl (.pointer (some ⟨B', 0, none⟩)) hsel hfr hC (by kernel_rfl) (by decide) (fun _ _ _ h => hq _ _ _ _ _ h) (by rfl) (fun w => ?_) (by first | (right; assumption) | (left; kernel_rfl)) (fun hC2 => ?_)
  · go_simp
  clear hC
  have hC := hC2
  clear hC2
  (try simp only [Act.put, k1, k2, k3])
  refine mqa 42 rfl (.pointer (some ⟨B', 0, none⟩)) hsel hfr hC (by kernel_rfl) (by decide) (fun _ _ _ h => hq _ _ _ _ _ h) (by rfl) (fun w => ?_) (by first | (right; assumption) | (left; kernel_rfl)) (fun hC2 => ?_)
  · go_simp
  clear hC
  have hC := hC2
  clear hC2
  (try simp only [Act.put, k1, k2, k3])
  refine mqt 43 rfl [44, 46] (.slice A2 l c2) hsel hfr hC (by kernel_rfl) (by kernel_rfl) (fun _ _ _ h => hq _ _ _ _ _ h) (by rfl) (fun w hSw => ?_) (by assumption) (fun hC2 => ?_)
  · (try dsimp only at hSw)
    have x0 : w.cell? ⟨B', 0, none⟩ = some (.slice A2 l c2) := hSw.hr.row.cell_ (i := 0) rfl
    go_simp
  clear hC
  have hC := hC2
  clear hC2
  (try simp only [Act.put, k1, k2, k3])
  refine mqc 39 rfl hC (by kernel_rfl) (by rfl) (fun K hK => ?_)
  go_simp
  refine (all_n b A' c' l r'.xs _ HRD1.out.hp.memo.mem HRD1.out.hr.len).mono ?_
  intro e w17 hF
  obtain ⟨A6, c6, rfl, hOwn, hO⟩ := hF
  have HW6 := Lib.hid hOwn
  clear hOwn
  have HRD2 := Lib.hid (HRD1.out.keep hO)
  refine hK.out _ _ (.inr HRD2.out) (fun hC2 => ?_)
  have hHeld2 := HRD2.out
  clear hK K hHeld hO HRD1 hC
  have hC := hC2
  clear hC2
  have HRD1 := HRD2
  have hHeld := hHeld2
  clear HRD2 hHeld2
  (try simp only [Act.put, k1, k2, k3])
  refine mqc 44 rfl hC (by kernel_rfl) (by rfl) (fun K hK => ?_)
  go_simp
  refine (same_n A6 A2 c6 c2 l r'.xs r'.xs _ (HW6.out.held_n HRD1.out.hr.len) (HRD1.out.hr.own.held_n HRD1.out.hr.len) (by omega)).mono ?_
  rw [show decide (r'.xs = r'.xs) = true by simp]
  rintro e w18 ⟨rfl, hO⟩
  have HRD2 := Lib.hid (HRD1.out.keep hO)
  refine hK.out _ _ (.inr HRD2.out) (fun hC2 => ?_)
  have hHeld2 := HRD2.out
  clear hK K hHeld hO HRD1 hC
  have hC := hC2
  clear hC2
  have HRD1 := HRD2
  have hHeld := hHeld2
  clear HRD2 hHeld2
  (try simp only [Act.put, k1, k2, k3])
  refine mqa 45 rfl (.bool true) hsel hfr hC (by kernel_rfl) (by decide) (fun _ _ _ h => hq _ _ _ _ _ h) (by rfl) (fun w => ?_) (by first | (right; assumption) | (left; kernel_rfl)) (fun hC2 => ?_)
  · go_simp
  clear hC
  have hC := hC2
  clear hC2
  (try simp only [Act.put, k1, k2, k3])
  refine mqa 46 rfl (.bool true) hsel hfr hC (by kernel_rfl) (by decide) (fun _ _ _ h => hq _ _ _ _ _ h) (by rfl) (fun w => ?_) (by first | (right; assumption) | (left; kernel_rfl)) (fun hC2 => ?_)
  · go_simp
  clear hC
  have hC := hC2
  clear hC2
  (try simp only [Act.put, k1, k2, k3])
  refine mqc 47 rfl hC (by kernel_rfl) (by rfl) (fun K hK => ?_)
  go_simp
  refine (awake_any _).mono ?_
  rintro e w19 ⟨rfl, hO⟩
  have HT9 := Lib.hid (HRD1.out.keep hO)
  refine hK.out _ _ (.inl (by kernel_rfl)) (fun hC2 => ?_)
  clear hK K hHeld hO HRD1 hC
  have hC := hC2
  clear hC2
  (try simp only [Act.put, k1, k2, k3])
  refine mqa 48 rfl (.bool true) hsel hfr hC (by kernel_rfl) (by decide) (fun _ _ _ h => hq _ _ _ _ _ h) (by rfl) (fun w => ?_) (by first | (right; assumption) | (left; kernel_rfl)) (fun hC2 => ?_)
  · go_simp
  clear hC
  have hC := hC2
  clear hC2
  (try simp only [Act.put, k1, k2, k3])
  refine mqa 49 rfl (.bool true) hsel hfr hC (by kernel_rfl) (by decide) (fun _ _ _ h => hq _ _ _ _ _ h) (by rfl) (fun w => ?_) (by first | (right; assumption) | (left; kernel_rfl)) (fun hC2 => ?_)
  · go_simp
  clear hC
  have hC := hC2
  clear hC2
  (try simp only [Act.put, k1, k2, k3])
  refine wpAnyP_done (by kernel_rfl) ?_ _
  exact h _ _ _ _ _ _ _ _ _ _ _ _ _ _ _ _ _ _ _ _ _ _ _ _ _ _ _ _ _ _ _ _ _ _ _ _ _ _ _ _ _ _ _ _ _ _ _ _ _ w19 HT9.out.only
end Go.Proofs.YtdmpaoajcnjbaaaGreat
