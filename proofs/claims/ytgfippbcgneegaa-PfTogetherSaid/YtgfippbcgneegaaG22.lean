import Derived.Deep.OwnRows
import Derived.Test.YtgfippbcgneegaaG20
import Derived.Test.YtgfippbcgneegaaG4
import Derived.Test.YtgfippbcgneegaaG19
import Derived.Test.YtgfippbcgneegaaG3
import Derived.Test.YtgfippbcgneegaaG21
set_option linter.unusedVariables false
set_option linter.unusedSimpArgs false
namespace Go.Proofs.Ytgfippbcgneegaa
open Go.RowKit
theorem many_bd (m : MV) (what : Int) : ∀ k, manyI m what k ≤ k
  | 0 => Nat.le_refl _
  | k + 1 => by
    have := many_bd m what k
    unfold manyI
    split <;> omega
theorem many_any (L : List (Nat × TypeId × Array Value)) (w0 : World) (X GL GH : Nat) (B : Nat → Nat) (p A : Option Addr) (cp k : Nat) (m : MV) (what : Int) (w : World) (h : MatchP L w0 X GL GH B p A cp k m w) (hk : k ≤ 1000) :
    Calls Try.prog 15 #[Value.pointer (some ⟨X, 0, none⟩), .int .i64 what] w fun e w' => e = .returned (.int .i64 (manyI m what k)) ∧ w = w' := by
  obtain ⟨cl, hx0⟩ := h.x
  obtain ⟨csh, hh0, hh1⟩ := h.h
  have x1 : w.cell? ⟨X, 1, none⟩ = some (.slice (some ⟨GH, 0, none⟩) k k) := hx0.cell_ (i := 1) rfl
  have HH := Lib.hid (show ∀ i, i < k → w.cell? ⟨GH, i, none⟩ = some (.int .i64 (m.hold i)) from fun i hi => hh0.cell_ (hh1 i hi))
  clear h hx0 hh0 hh1
  go_enter Try.func15, Try.ntmps15
  go_wp2_with fail
  go_loop [5, 6] (fun nv iv => ∃ i : Nat, i ≤ k ∧ iv = .int .i64 i ∧ nv = .int .i64 (manyI m what i)) (fun _ iv => k - (intOf iv).toNat)
  case atStart => exact ⟨0, Nat.zero_le _, rfl, rfl⟩
  case round =>
    obtain ⟨i, hi, rfl, rfl⟩ := hrel
    have b1 := many_bd m what i
    by_cases hlt : i < k
    · have gh := HH.out i hlt
      have HS := Lib.hid (show manyI m what (i + 1) = if m.hold i = what then manyI m what i + 1 else manyI m what i from rfl)
      by_cases he : m.hold i = what
      · have he' : (m.hold i == what) = true := beq_iff_eq.2 he
        have HE := Lib.hid (HS.out.trans (if_pos he))
        clear he
        generalize manyI m what i = c at *
        generalize m.hold i = hv at *
        go_wp2
        go_round
        case rel => exact ⟨i + 1, by omega, by go_num, by rw [HE.out]; first | done | go_num⟩
        case measure => simp [intOf]; omega
      · have he' : (m.hold i == what) = false := beq_eq_false_iff_ne.2 he
        have HE := Lib.hid (HS.out.trans (if_neg he))
        clear he
        generalize manyI m what i = c at *
        generalize m.hold i = hv at *
        go_wp2
        go_round
        case rel => exact ⟨i + 1, by omega, by go_num, by rw [HE.out]; first | done | go_num⟩
        case measure => simp [intOf]; omega
    · obtain rfl : i = k := by omega
      go_wp2
      go_ret
      exact ⟨rfl, rfl⟩
def OwnP (base : Nat) (w : World) (v : Value) (bs : List Nat) : Prop := w.ownsRow base 62 1 v bs.length (bs.map fun b => Value.pointer (some ⟨b, 0, none⟩))
theorem infoP : (Try.prog.info? 62).map (fun i => (i.zero, i.size, i.bytes)) = some (some (.pointer none), 1, 8) := by kernel_rfl
theorem infoI : (Try.prog.info? 3).map (fun i => (i.zero, i.size, i.bytes)) = some (some (.int .i64 0), 1, 8) := by kernel_rfl
theorem ownP_nil (base : Nat) (w : World) : OwnP base w (.slice none 0 0) [] := World.ownsRow_nil _ _ _ _
theorem ownP_tag {base : Nat} {w : World} {v : Value} {bs : List Nat} (h : OwnP base w v bs) {i : Nat} (hi : v.ownBlock = some i) : ∃ cur, Row w i 62 cur := by
  rcases h.2 with ⟨rfl, _⟩ | ⟨g, cap, cur, rfl, _, hg, _⟩
  · cases hi
  · have e : g = i := by simpa [Value.ownBlock] using hi
    subst e
    exact ⟨cur, hg⟩
theorem ownP_form {base : Nat} {w : World} {v : Value} {bs : List Nat} (h : OwnP base w v bs) : ∃ A n c, v = .slice A n c := by
  rcases h.2 with ⟨rfl, _⟩ | ⟨g, cap, cur, rfl, _⟩
  · exact ⟨none, 0, 0, rfl⟩
  · exact ⟨_, _, _, rfl⟩
theorem wp_appP {w : World} {ops : Array Oper} {rest : List Oper} {o : Oper} {a : Act} {Q : Exit → Act → World → Prop} (hgd : o.guard = none) (s x : Operand)
    (ho : o.op = .call { callee := .builtin .append, args := #[s, x], argTypes := #[47, 47] })
    (base : Nat) (v : Value) (bs : List Nat) (hs : a.eval s = v) (hown : OwnP base w v bs)
    (g nb : Nat) (hx : a.eval x = .slice (some ⟨g, 0, none⟩) 1 1) (hrow : Row w g 62 #[.pointer (some ⟨nb, 0, none⟩)])
    (h1 : bs.length ≤ 1000) (hbase : base ≤ w.heap.size)
    (h : ∀ v' w', OwnP base w' v' (bs ++ [nb]) → Only (fun k => v.ownBlock = some k) w w' → wpList Try.prog ops Q rest (a.put o.dst v') w') : wpList Try.prog ops Q (o :: rest) a w := by
  obtain ⟨i0, hi, hz0, hz1, hz2⟩ := info_parts infoP
  refine wpList_append_own w hgd s x 47 ho base 62 i0 (.pointer none) 1 8 Try.underlying47 hi hz0 hz1 hz2 rfl (by decide) v bs.length _ hs hown ⟨g, 0, none⟩ 1 1 [.pointer (some ⟨nb, 0, none⟩)] hx rfl (fun j u hj => ?_) (fun u hu => ?_) (by unfold maxLen; omega) (by omega) hbase (fun v' w' hO hG _ => ?_)
  · rw [add_at, Nat.zero_add]
    exact hrow.cell_ (by rw [← hj]; simp)
  · simp only [List.mem_cons, List.not_mem_nil, or_false] at hu
    subst hu
    rfl
  · refine h v' w' ?_ ((Only.refl _ w).grown hG (fun k hk => .inr hk))
    unfold OwnP
    rw [List.length_append, List.map_append]
    exact hO
structure BegunI (w0 : World) (X GH b : Nat) (A : Option Addr) (cp k : Nat) (mode : Int) (xs : List Int) (j : Nat) (W : World) : Prop where
  x : ∃ lv bs, Row W X 49 #[lv, .slice (some ⟨GH, 0, none⟩) k k] ∧ OwnP w0.heap.size W lv bs ∧ bs.length = j ∧ (∀ (i : Nat) (b' : Nat), bs[i]? = some b' → Row W b' 61 (newCells (some ⟨b, 0, none⟩) k mode i 0) ∧ w0.heap.size ≤ b') ∧ (∀ (i i' b' : Nat), bs[i]? = some b' → bs[i']? = some b' → i = i')
  h : ∃ cs, Row W GH 3 cs ∧ ∀ i, i < k → cs[i]? = some (.int .i64 0)
  made : Made w0 b A cp xs W
  gh : w0.heap.size ≤ GH
  xb : w0.heap.size ≤ X
theorem made_zero (k i : Nat) (hi : i < k) : (madeCells #[.int .i64 0] k)[i]? = some (.int .i64 0) := by
  rw [← Array.getElem?_toList, toList_madeCells_one, List.getElem?_replicate, if_pos hi]
def BegunP (k : Nat) (m : MV) (w : World) (e : Ending) (w' : World) : Prop := ∃ X GL GH B p A cp, e = .returned (Value.pointer (some ⟨X, 0, none⟩)) ∧ MatchP [] w X GL GH B p A cp k m w'
set_option maxRecDepth 100000 in
set_option maxHeartbeats 2000000 in
theorem begun_any (k : Nat) (mode b0 : Int) (w : World) (hk : 1 ≤ k ∧ k ≤ 64) (hb : 0 ≤ b0 ∧ b0 < 4294967296) :
    Calls Try.prog 13 #[.int .i64 k, .int .i64 mode, .int .u32 b0] w (BegunP k ⟨fun i => newR k mode i 0 ((T5.at b0).xs k), fun _ => 0, ((T5.at b0).xs k)⟩ w) := by
  have HBD := Lib.hid hb
  have HK := Lib.hid hk
  have hk1 : (1 : Int) ≤ k := by omega
  have hk2 : (k : Int) ≤ 64 := by omega
  have hk3 : k ≤ 64 := by omega
  clear hb hk
  have hmk := fun W => run_make_row' (P := Try.prog) 23 3 (.int .i64 0) 8 Try.underlying23 infoI rfl .i64 .i64 k (by omega) (by omega) W
  go_enter Try.func13, Try.ntmps13
  go_wp2_with fail
  refine (first_pf k b0 _ HK.out HBD.out).mono ?_
  rintro e w1 ⟨gf, rfl, hg, hH, hO⟩
  have HH := Lib.hid hH
  have HO := Lib.hid hO
  clear hg hH hO
  go_wp2_with fail
  refine (from_ok _ _ _ _ _ (by omega) HH.out).mono ?_
  rintro e w2 ⟨b, A', c', rfl, hb, hA, hM, hO⟩
  have HM : Hid (Made w b A' c' _ w2) := Lib.hid ⟨hM, fun j hj => Nat.le_trans HO.out.size (hA j hj), HO.out.trans hO⟩
  clear hb hA hM hO HO HH
  have e1 := (Only.refl Nil w2).alloc (.cells (madeCells #[.int .i64 0] k) 3)
  have e2 := e1.alloc (.cells #[.slice none 0 0, .slice (some ⟨w2.heap.size, 0, none⟩) k k] 49)
  have HI0 : Hid (BegunI w (w2.heap.size + 1) w2.heap.size b A' c' k mode ((T5.at b0).xs k) 0 ((w2.alloc (.cells (madeCells #[.int .i64 0] k) 3)).alloc (.cells #[.slice none 0 0, .slice (some ⟨w2.heap.size, 0, none⟩) k k] 49))) :=
    Lib.hid ⟨⟨_, [], Row.new2 w2 _ _ _, ownP_nil _ _, rfl, fun i b' h => by simp at h, fun i i' b' h => by simp at h⟩, ⟨_, (Row.new w2 _ _).alloc _, fun i hi => made_zero k i hi⟩, ⟨HM.out.mem.only e2 id (fun _ _ => id), HM.out.new, HM.out.only.trans e2⟩, HM.out.only.size, Nat.le_trans HM.out.only.size (Nat.le_succ _)⟩
  clear e1 e2 HM
  go_upto_region 7 with (fail)
  generalize (w2.alloc (.cells (madeCells #[.int .i64 0] k) 3)).alloc (.cells #[.slice none 0 0, .slice (some ⟨w2.heap.size, 0, none⟩) k k] 49) = w3 at *
  generalize w2.heap.size + 1 = X at *
  generalize w2.heap.size = GH at *
  clear hmk
  go_loopw [12] (fun iv wr => ∃ j : Nat, j ≤ k ∧ iv = .int .i64 j ∧ BegunI w X GH b A' c' k mode ((T5.at b0).xs k) j wr) (fun iv _ => k - (intOf iv).toNat)
  case atStart => exact ⟨0, Nat.zero_le _, rfl, HI0.out⟩
  case round =>
    obtain ⟨j, hj, rfl, hI⟩ := hrel
    clear HI0
    obtain ⟨lv, bs, hx, hown, hlen, hruns, hinj⟩ := hI.x
    have HI := Lib.hid hI
    have HX := Lib.hid hx
    have HOW := Lib.hid hown
    have HLN := Lib.hid hlen
    have HRU := Lib.hid hruns
    have HIN := Lib.hid hinj
    clear hI hlen hruns hinj
    by_cases hlt : j < k
    · obtain ⟨A9, n9, c9, rfl⟩ := ownP_form hown
      have cx : wr.cell? ⟨X, 0, none⟩ = some (.slice A9 n9 c9) := hx.cell_ (i := 0) rfl
      clear hx hown
      have e1 := (Only.refl Nil wr).alloc (.cells (newCells (some ⟨b, 0, none⟩) k mode j 0) 61)
      have e2 := e1.alloc (.cells #[.pointer (some ⟨wr.heap.size, 0, none⟩)] 62)
      have HE2 := Lib.hid e2
      have HRN := Lib.hid ((Row.new wr 61 (newCells (some ⟨b, 0, none⟩) k mode j 0)).alloc (.cells #[.pointer (some ⟨wr.heap.size, 0, none⟩)] 62))
      have HPN := Lib.hid (Row.new2 wr (.cells (newCells (some ⟨b, 0, none⟩) k mode j 0) 61) 62 #[.pointer (some ⟨wr.heap.size, 0, none⟩)])
      have HBASE := Lib.hid (Nat.le_trans HI.out.made.only.size e2.size)
      clear e1 e2
      unfold newCells at HE2 HRN HPN HBASE
      go_wp2_with (at_builtin; refine wp_appP rfl (.tmp 43) (.tmp 51) rfl w.heap.size _ bs (by rfl) (own_only HOW.out HE2.out (fun _ _ => id)) (wr.heap.size + 1) wr.heap.size (by rfl) HPN.out (by have := HLN.out; omega) HBASE.out ?_)
      intro v' w5 hown5 hO5
      obtain ⟨A8, n8, c8, rfl⟩ := ownP_form hown5
      clear cx
      have HX5 := Lib.hid ((HX.out.only HE2.out id).only hO5 (fun e => by
        obtain ⟨cur, hc⟩ := ownP_tag HOW.out e
        exact row_ne HX.out hc (by decide) rfl))
      have HFAR := Lib.hid (show ∀ (g : Nat) (t : TypeId) (cs : Array Value), Row wr g t cs → t ≠ 62 → Row w5 g t cs from fun g t cs hr ht => (hr.only HE2.out id).only hO5 (fun e => by
        obtain ⟨cur, hc⟩ := ownP_tag HOW.out e
        exact row_ne hr hc ht rfl))
      have HRN5 := Lib.hid (HRN.out.only hO5 (fun e => by
        have := (World.ownsRow.lt HOW.out _ e).2
        omega))
      have HM5 : Hid (Made w b A' c' ((T5.at b0).xs k) w5) := Lib.hid ⟨(HI.out.made.mem.only HE2.out id (fun _ _ => id)).only hO5 (fun e => by
          obtain ⟨cur, hc⟩ := ownP_tag HOW.out e
          exact row_ne HI.out.made.mem.hdr hc (by decide) rfl) (fun i hi e => by
          obtain ⟨cur, hc⟩ := ownP_tag HOW.out e
          exact memo_not (Memo.of HI.out.made.mem) hc (by decide) (by decide) (.inr hi)), HI.out.made.new, (HI.out.made.only.trans HE2.out).step hO5 (fun i hi e => by
          have := (World.ownsRow.lt HOW.out _ e).1
          omega)⟩
      have HOW5 := Lib.hid hown5
      have HWS := Lib.hid (show wr.heap.size < w5.heap.size from by
        have h1 := hO5.size
        have h2 : wr.heap.size < ((wr.alloc (.cells #[.pointer (some ⟨b, 0, none⟩), .int .i64 k, .int .i64 mode, .int .i64 j, .int .i64 0, .int .i64 0, .int .u32 0, .int .u32 0, .int .i64 0, .bool false, .int .i64 0, .int .i64 0, .bool false, .int .i64 0, .int .i64 0, .int .i64 0, .int .u32 0, .int .u32 0, .int .u32 0, .slice none 0 0] 61)).alloc (.cells #[.pointer (some ⟨wr.heap.size, 0, none⟩)] 62)).heap.size := by simp; omega
        omega)
      have y0 : w5.cell? ⟨X, 0, none⟩ = some (.slice A9 n9 c9) := HX5.out.cell_ (i := 0) rfl
      have yf : w5.frozen? ⟨X, 0, none⟩ = false := HX5.out.frozen 0
      clear hown5 hO5
      go_wp2
      clear y0 yf
      have HO6 := Lib.hid ((Only.refl (· = X) w5).setCell (p := ⟨X, 0, none⟩) (.inr rfl) (.slice A8 n8 c8))
      have hI' : BegunI w X GH b A' c' k mode ((T5.at b0).xs k) (j + 1) (w5.setCell ⟨X, 0, none⟩ (.slice A8 n8 c8)) := by
        refine ⟨⟨.slice A8 n8 c8, bs ++ [wr.heap.size], HX5.out.set 0 (.slice A8 n8 c8), own_only HOW5.out HO6.out (fun i hi e => ?_), by rw [List.length_append, HLN.out]; rfl, fun i b' hb' => ?_, fun i i' b' h1 h2 => ?_⟩, ?_, ⟨HM5.out.mem.only HO6.out (fun e => row_ne HM5.out.mem.hdr HX5.out (by decide) e) (fun i hi e => memo_not (Memo.of HM5.out.mem) HX5.out (by decide) (by decide) (by subst e; exact .inr hi)), HM5.out.new, HM5.out.only.setCell (.inl HI.out.xb) _⟩, HI.out.gh, HI.out.xb⟩
        · obtain ⟨cur, hc⟩ := ownP_tag HOW5.out hi
          exact row_ne hc HX5.out (by decide) e
        · by_cases hi : i < bs.length
          · rw [List.getElem?_append_left hi] at hb'
            obtain ⟨hr, hb0⟩ := HRU.out i b' hb'
            exact ⟨(HFAR.out _ _ _ hr (by decide)).only HO6.out (fun e => row_ne (HFAR.out _ _ _ hr (by decide)) HX5.out (by decide) e), hb0⟩
          · rw [List.getElem?_append_right (by omega)] at hb'
            have hij : i = bs.length := by
              by_cases e : i = bs.length
              · exact e
              · rw [List.getElem?_eq_none (by simp; omega)] at hb'
                cases hb'
            subst hij
            simp only [Nat.sub_self, List.getElem?_cons_zero, Option.some.injEq] at hb'
            subst hb'
            rw [HLN.out]
            exact ⟨HRN5.out.only HO6.out (fun e => row_ne HRN5.out HX5.out (by decide) e), HI.out.made.only.size⟩
        · have hlt1 : ∀ (q : Nat), bs[q]? = some b' → b' < wr.heap.size := fun q hq => (HRU.out q b' hq).1.lt
          by_cases hi : i < bs.length
          · by_cases hi' : i' < bs.length
            · rw [List.getElem?_append_left hi] at h1
              rw [List.getElem?_append_left hi'] at h2
              exact HIN.out i i' b' h1 h2
            · rw [List.getElem?_append_left hi] at h1
              have := hlt1 i h1
              rw [List.getElem?_append_right (by omega)] at h2
              have := List.mem_of_getElem? h2
              simp only [List.mem_cons, List.not_mem_nil, or_false] at this
              omega
          · by_cases hi' : i' < bs.length
            · rw [List.getElem?_append_left hi'] at h2
              have := hlt1 i' h2
              rw [List.getElem?_append_right (by omega)] at h1
              have := List.mem_of_getElem? h1
              simp only [List.mem_cons, List.not_mem_nil, or_false] at this
              omega
            · have l1 := (List.getElem?_eq_some_iff.1 h1).1
              have l2 := (List.getElem?_eq_some_iff.1 h2).1
              rw [List.length_append] at l1 l2
              simp only [List.length_cons, List.length_nil] at l1 l2
              omega
        · obtain ⟨cs, hc, hz⟩ := HI.out.h
          exact ⟨cs, (HFAR.out _ _ _ hc (by decide)).only HO6.out (fun e => row_ne (HFAR.out _ _ _ hc (by decide)) HX5.out (by decide) e), hz⟩
      go_roundw
      case rel => exact ⟨j + 1, by omega, by go_num, hI'⟩
      case measure => simp [intOf]; omega
    · obtain rfl : j = k := by omega
      clear hx hown
      go_wp2
      go_ret
      rcases HOW.out.2 with ⟨_, hn⟩ | ⟨g, cap, cur, rfl, hb, hg, hc, hm, hsz, ht⟩
      · have := HLN.out; have := HK.out; omega
      · have hcur : ∀ i, i < j → cur[i]? = some (.pointer (some ⟨bs.getD i 0, 0, none⟩)) := fun i hi => by
          have e1 : (cur.toList.take (bs.length * 1))[i]? = (bs.map fun b => Value.pointer (some ⟨b, 0, none⟩))[i]? := by rw [ht]
          have hib : i < bs.length := by rw [HLN.out]; exact hi
          rw [List.getElem?_take, if_pos (by omega), List.getElem?_map, List.getElem?_eq_getElem hib] at e1
          simp only [Option.map_some, Array.getElem?_toList] at e1
          rw [e1]
          simp [List.getD, List.getElem?_eq_getElem hib]
        have hget : ∀ i, i < j → bs[i]? = some (bs.getD i 0) := fun i hi => by
          have hib : i < bs.length := by rw [HLN.out]; exact hi
          simp [List.getD, List.getElem?_eq_getElem hib]
        have hX := HX.out
        rw [HLN.out] at hX
        refine ⟨X, g, GH, fun i => bs.getD i 0, some ⟨b, 0, none⟩, A', c', rfl, ⟨⟨cap, hX⟩, ⟨cur, hg, hcur⟩, HI.out.h, fun i hi => ⟨.slice none 0 0, (HRU.out i _ (hget i hi)).1, Memo.of HI.out.made.mem⟩, fun i i' hi hi' e => ?_, Memo.of HI.out.made.mem, (at_ok HBD.out).words, HI.out.made.only, ?_, fun x hx => by simp at hx, fun x hx => by simp at hx, fun i hi => ⟨⟨Int.le_refl _, by show (0 : Int) < _; decide⟩, ⟨Int.le_refl _, by show (0 : Int) < _; decide⟩⟩⟩⟩
        · have h1 := hget i hi
          have h2 := hget i' hi'
          rw [← e] at h2
          exact HIN.out i i' _ h1 h2
        · rintro q (rfl | h | ⟨i, hi, rfl⟩)
          · exact HI.out.gh
          · exact HI.out.made.new q h
          · exact (HRU.out i _ (hget i hi)).2
end Go.Proofs.Ytgfippbcgneegaa
set_option linter.unusedVariables false
set_option linter.unusedSimpArgs false
namespace Go.Proofs.Ytgfippbcgneegaa
open Go.RowKit
def Idle (k : Nat) (mode : Int) (m : MV) : Prop := ∀ i, i < k → (m.at i).fresh = newR k mode i 0 m.xs
section
variable {L : LS → LS} {k : Nat} {mode : Int} {m : MV} {t : Nat}
structure Same3 (r r' : LS) : Prop where
  n : r'.n = r.n
  mode : r'.mode = r.mode
  task : r'.task = r.task
  op : r'.op = r.op
theorem fresh_zero {r r' : LS} (h : r.fresh = r'.fresh) (op : Int) : (zeroF r op).fresh = (zeroF r' op).fresh := by
  have h1 : r.n = r'.n := by have e := congrArg LS.n h; exact e
  have h2 : r.mode = r'.mode := by have e := congrArg LS.mode h; exact e
  have h3 : r.task = r'.task := by have e := congrArg LS.task h; exact e
  have h4 : r.xs = r'.xs := by have e := congrArg LS.xs h; exact e
  unfold zeroF LS.fresh
  simp only [h1, h2, h3, h4]
theorem while_alone (hL : ∀ r : LS, Same3 r (r.next L)) : ∀ (n : Nat) (m : MV) (ret : Int) (ys : List Int), (m.at t).op ≠ 0 → ret ≠ 0 → aloneG LS.stuck L (n + 1) (m.at t) = (ret, ys) →
    ∃ m', whileI L t (n + 1) m = m' ∧ m'.xs = ys ∧ m'.hold = upd m.hold t (behindI (m.at t).op ret (m.hold t)) ∧ (∀ i, i ≠ t → m'.rs i = m.rs i) ∧ ∃ r, (m'.at t).fresh = (zeroF r 0).fresh ∧ r.n = (m.at t).n ∧ r.mode = (m.at t).mode ∧ r.task = (m.at t).task ∧ r.xs = ys := by
  intro n
  induction n with
  | zero =>
    intro m ret ys hop hret h
    have hs : (m.at t).stuck = false := by
      cases e : (m.at t).stuck
      · rfl
      · have h' : (if (m.at t).stuck = true then ((0 : Int), (m.at t).xs) else _) = (ret, ys) := h
        rw [if_pos e] at h'
        exact absurd (congrArg Prod.fst h').symm hret
    have hov : ((m.at t).next L).over = true := by
      cases e : ((m.at t).next L).over
      · have h' : (if (m.at t).stuck = true then _ else if ((m.at t).next L).over = true then _ else ((0 : Int), ((m.at t).next L).xs)) = (ret, ys) := h
        rw [if_neg (by rw [hs]; exact Bool.false_ne_true), if_neg (by rw [e]; exact Bool.false_ne_true)] at h'
        exact absurd (congrArg Prod.fst h').symm hret
      · rfl
    have h' : (if (m.at t).stuck = true then _ else if ((m.at t).next L).over = true then (((m.at t).next L).ret, ((m.at t).next L).xs) else _) = (ret, ys) := h
    rw [if_neg (by rw [hs]; exact Bool.false_ne_true), if_pos hov] at h'
    obtain ⟨h1, h2⟩ := Prod.mk.inj h'
    have hw : whileI L t (0 + 1) m = m.go L t := by
      show (if (m.at t).op = 0 then m else whileI L t 0 (playI L m t 0)) = _
      rw [if_neg hop]
      show playI L m t 0 = _
      unfold playI
      rw [if_neg hop]
    have hg : m.go L t = ((m.setR t ((m.at t).next L)).setH t (behindI ((m.at t).next L).op ((m.at t).next L).ret (m.hold t))).setR t (zeroF ((m.at t).next L) 0) := by
      unfold MV.go
      rw [if_neg (by rw [hs]; exact Bool.false_ne_true), if_pos hov]
    obtain ⟨q1, q2, q3, q4⟩ := hL (m.at t)
    refine ⟨_, hw.trans hg, h2, ?_, fun i hi => ?_, (m.at t).next L, by rw [at_setR], q1, q2, q3, h2⟩
    · show upd m.hold t _ = upd m.hold t _
      rw [q4, h1]
    · show upd (upd m.rs t _) t _ i = m.rs i
      rw [upd_other _ _ hi, upd_other _ _ hi]
  | succ n ih =>
    intro m ret ys hop hret h
    have hs : (m.at t).stuck = false := by
      cases e : (m.at t).stuck
      · rfl
      · have h' : (if (m.at t).stuck = true then ((0 : Int), (m.at t).xs) else _) = (ret, ys) := h
        rw [if_pos e] at h'
        exact absurd (congrArg Prod.fst h').symm hret
    have h' : (if (m.at t).stuck = true then _ else if ((m.at t).next L).over = true then (((m.at t).next L).ret, ((m.at t).next L).xs) else aloneG LS.stuck L (n + 1) ((m.at t).next L)) = (ret, ys) := h
    rw [if_neg (by rw [hs]; exact Bool.false_ne_true)] at h'
    have hw : whileI L t (n + 1 + 1) m = whileI L t (n + 1) (m.go L t) := by
      show (if (m.at t).op = 0 then m else whileI L t (n + 1) (playI L m t 0)) = _
      rw [if_neg hop]
      unfold playI
      rw [if_neg hop]
    obtain ⟨q1, q2, q3, q4⟩ := hL (m.at t)
    cases hov : ((m.at t).next L).over
    · rw [if_neg (by rw [hov]; exact Bool.false_ne_true)] at h'
      have hg : m.go L t = m.setR t ((m.at t).next L) := by
        unfold MV.go
        rw [if_neg (by rw [hs]; exact Bool.false_ne_true), if_neg (by rw [hov]; exact Bool.false_ne_true)]
      have hat : (m.setR t ((m.at t).next L)).at t = (m.at t).next L := at_setR
      obtain ⟨m', e1, e2, e3, e4, r, e5, e6, e7, e8, e9⟩ := ih (m.setR t ((m.at t).next L)) ret ys (by rw [hat, q4]; exact hop) hret (by rw [hat]; exact h')
      rw [hat, q4] at e3
      rw [hat] at e6 e7 e8
      refine ⟨m', by rw [hw, hg]; exact e1, e2, e3, fun i hi => ?_, r, e5, e6.trans q1, e7.trans q2, e8.trans q3, e9⟩
      rw [e4 i hi]
      show upd m.rs t _ i = _
      rw [upd_other _ _ hi]
    · rw [if_pos hov] at h'
      obtain ⟨h1, h2⟩ := Prod.mk.inj h'
      have hg : m.go L t = ((m.setR t ((m.at t).next L)).setH t (behindI ((m.at t).next L).op ((m.at t).next L).ret (m.hold t))).setR t (zeroF ((m.at t).next L) 0) := by
        unfold MV.go
        rw [if_neg (by rw [hs]; exact Bool.false_ne_true), if_pos hov]
      have hstop : whileI L t (n + 1) (m.go L t) = m.go L t := by
        show (if ((m.go L t).at t).op = 0 then _ else _) = _
        rw [if_pos (by rw [hg, at_setR]; rfl)]
      refine ⟨_, (hw.trans hstop).trans hg, h2, ?_, fun i hi => ?_, (m.at t).next L, by rw [at_setR], q1, q2, q3, h2⟩
      · show upd m.hold t _ = upd m.hold t _
        rw [q4, h1]
      · show upd (upd m.rs t _) t _ i = m.rs i
        rw [upd_other _ _ hi, upd_other _ _ hi]
theorem whole_alone (hL : ∀ r : LS, Same3 r (r.next L)) (hi : Idle k mode m) (ht : t < k) {op ret : Int} {ys : List Int} (hop : op ≠ 0) (hmay : mayI op (m.hold t) = true) (hret : ret ≠ 0)
    (h : aloneG LS.stuck L 201 (newR k mode t op m.xs) = (ret, ys)) : ∃ m', wholeI L m t op = m' ∧ Idle k mode m' ∧ m'.xs = ys ∧ m'.hold = upd m.hold t (behindI op ret (fromI op (m.hold t))) := by
  have hr0 : (m.at t).op = 0 := by
    have e := congrArg LS.op (hi t ht)
    exact e
  have hst : (m.start t op).at t = zeroF (m.at t) op := at_setR
  have hfr : (zeroF (m.at t) op).fresh = newR k mode t op m.xs := by
    have e : (m.at t).fresh = (newR k mode t 0 m.xs).fresh := hi t ht
    rw [fresh_zero e op]
    rfl
  have h0 : aloneG LS.stuck L 201 ((m.start t op).at t) = (ret, ys) := by
    rw [hst, ← alone_fresh chk_stuck (by decide), hfr]
    exact h
  obtain ⟨m', e1, e2, e3, e4, r, e5, e6, e7, e8, e9⟩ := while_alone (t := t) hL 200 (m.start t op) ret ys (by rw [hst]; exact hop) hret h0
  have hw : wholeI L m t op = m' := by
    unfold wholeI
    have hp : playI L m t op = (m.start t op).go L t := by unfold playI; rw [if_pos hr0, if_pos hmay]
    rw [hp, ← e1]
    show _ = (if ((m.start t op).at t).op = 0 then _ else whileI L t 200 (playI L (m.start t op) t 0))
    rw [if_neg (by rw [hst]; exact hop)]
    congr 1
    unfold playI
    rw [if_neg (by rw [hst]; exact hop)]
  refine ⟨m', hw, fun i hik => ?_, e2, ?_⟩
  · by_cases hit : i = t
    · subst hit
      rw [e5]
      have h1 := congrArg LS.n hfr
      have h2 := congrArg LS.mode hfr
      have h3 := congrArg LS.task hfr
      rw [hst] at e6 e7 e8
      unfold zeroF LS.fresh newR
      simp only [e6, e7, e8, e9, e2]
      exact congrArg (fun x => x) (by
        have g1 : (zeroF (m.at i) op).n = k := h1
        have g2 : (zeroF (m.at i) op).mode = mode := h2
        have g3 : (zeroF (m.at i) op).task = i := h3
        rw [g1, g2, g3])
    · have e := hi i hik
      have hrs : m'.rs i = m.rs i := by
        rw [e4 i hit]
        show upd m.rs t _ i = _
        rw [upd_other _ _ hit]
      have e' : (m'.at i).fresh = { (m.at i).fresh with xs := m'.xs } := by unfold MV.at LS.fresh; rw [hrs]
      rw [e', e]
      rfl
  · rw [e3, hst]
    show upd (upd m.hold t (fromI op (m.hold t))) t (behindI op ret (upd m.hold t (fromI op (m.hold t)) t)) = _
    rw [upd_same]
    funext i
    unfold upd
    split <;> rfl
end
end Go.Proofs.Ytgfippbcgneegaa
set_option linter.unusedVariables false
set_option linter.unusedSimpArgs false
namespace Go.Proofs.Ytgfippbcgneegaa
open Go.RowKit
theorem same_next (r : LS) : Same3 r (r.next LS.pf) := ⟨(good_next (L := LS.pf) (fun r => good_pf) r).1.n, (good_next (L := LS.pf) (fun r => good_pf) r).1.mode, (good_next (L := LS.pf) (fun r => good_pf) r).1.task, (good_next (L := LS.pf) (fun r => good_pf) r).1.op⟩
def plus (b : Int) (c : Nat) : Int := (b + c) % 4294967296
def plusR (b : Int) (c : Nat) : Int := (b * 256 + 256 * c) % 4294967296
theorem plus_up (b : Int) (c : Nat) : ad 1 (plus b c) = plus b (c + 1) := by unfold ad plus; push_cast; omega
theorem plusR_up (b : Int) (c : Nat) : ad 256 (plusR b c) = plusR b (c + 1) := by unfold ad plusR; push_cast; omega
theorem plus_zero {b : Int} (h : 0 ≤ b ∧ b < 4294967296) : plus b 0 = b := by unfold plus; omega
theorem plusR_zero {b : Int} : plusR b 0 = b * 256 % 4294967296 := by unfold plusR; simp
theorem plus_ahead {b : Int} {c d : Nat} (h : d < c) (hc : c ≤ 1000) : 0 < aheadI (plusR b c) (plusR b d) := by unfold aheadI plusR; omega
theorem plusR_bits (b : Int) (c : Nat) : bitsI (plusR b c) = 0 := by unfold bitsI plusR; omega
structure Reads (k : Nat) (mode b : Int) (c a f : Nat) (m : MV) : Prop where
  idle : Idle k mode m
  xs : m.xs = (⟨plusR b c, plusR b a, plus b f, plus b f, b⟩ : T5).xs k
  hold : ∀ i, m.hold i = if a ≤ i ∧ i < c then 1 else 0
theorem reads_many {k : Nat} {mode b : Int} {c a f : Nat} {m : MV} (h : Reads k mode b c a f m) : ∀ n, manyI m 1 n = min n c - min n a := by
  intro n
  induction n with
  | zero => unfold manyI; omega
  | succ n ih =>
    unfold manyI
    rw [h.hold n, ih]
    by_cases e : a ≤ n ∧ n < c
    · rw [if_pos (if_pos e)]; omega
    · rw [if_neg (by rw [if_neg e]; decide)]; omega
section
variable {k : Nat} {mode b : Int} {c a f : Nat} {m : MV} (hk : 2 ≤ k ∧ k ≤ 16) (h : Reads k mode b c a f m)
include hk h
theorem reads_come {op : Int} (hop : op = 1 ∨ op = 5) (hc : c < k) (ha : a ≤ c) : Reads k mode b (c + 1) a f (wholeI LS.pf m c op) := by
  have hal : aloneG LS.stuck LS.pf 201 (newR k mode c op m.xs) = (2, (⟨plusR b (c + 1), plusR b a, plus b f, plus b f, b⟩ : T5).xs k) := by
    rw [h.xs, alone_pfG chk_stuck (by omega) (by omega) (show okP op ⟨plusR b c, plusR b a, plus b f, plus b f, b⟩ by unfold okP; rcases hop with rfl | rfl <;> simp [plusR_bits])]
    rcases hop with rfl | rfl <;> simp [opP, plusR_up]
  have hhold : m.hold c = 0 := by rw [h.hold, if_neg (by omega)]
  obtain ⟨m', e, h1, h2, h3⟩ := whole_alone (t := c) same_next h.idle hc (by rcases hop with rfl | rfl <;> decide) (by rw [hhold]; rcases hop with rfl | rfl <;> rfl) (by decide) hal
  rw [e]
  refine ⟨h1, h2, fun i => ?_⟩
  rw [h3]
  have hb : behindI op 2 (fromI op (m.hold c)) = 1 := by rw [hhold]; rcases hop with rfl | rfl <;> rfl
  rw [hb]
  unfold upd
  by_cases e : i = c
  · rw [if_pos e, if_pos (by omega)]
  · rw [if_neg e, h.hold]
    by_cases e2 : a ≤ i ∧ i < c
    · rw [if_pos e2, if_pos (by omega)]
    · rw [if_neg e2, if_neg (by omega)]
theorem reads_go (hc : c ≤ k) (ha : a < c) : Reads k mode b c (a + 1) f (wholeI LS.pf m a 2) := by
  have hal : aloneG LS.stuck LS.pf 201 (newR k mode a 2 m.xs) = (2, (⟨plusR b c, plusR b (a + 1), plus b f, plus b f, b⟩ : T5).xs k) := by
    rw [h.xs, alone_pfG chk_stuck (by omega) (by omega) (show okP 2 ⟨plusR b c, plusR b a, plus b f, plus b f, b⟩ by unfold okP; simp)]
    simp [opP, plusR_up]
  have hhold : m.hold a = 1 := by rw [h.hold, if_pos (by omega)]
  obtain ⟨m', e, h1, h2, h3⟩ := whole_alone (t := a) same_next h.idle (by omega) (by decide) (by rw [hhold]; rfl) (by decide) hal
  rw [e]
  refine ⟨h1, h2, fun i => ?_⟩
  rw [h3]
  have hb : behindI 2 2 (fromI 2 (m.hold a)) = 0 := rfl
  rw [hb]
  unfold upd
  by_cases e : i = a
  · rw [if_pos e, if_neg (by omega)]
  · rw [if_neg e, h.hold]
    by_cases e2 : a ≤ i ∧ i < c
    · rw [if_pos e2, if_pos (by omega)]
    · rw [if_neg e2, if_neg (by omega)]
theorem reads_refuse (hc : c < k) (ha : a < c) {t : Nat} (ht : t + 1 = k) (htc : c ≤ t) : Reads k mode b c a (f + 1) (wholeI LS.pf m t 6) := by
  have hal : aloneG LS.stuck LS.pf 201 (newR k mode t 6 m.xs) = (1, (⟨plusR b c, plusR b a, plus b (f + 1), plus b (f + 1), b⟩ : T5).xs k) := by
    rw [h.xs]
    rw [pf_w_noRG chk_stuck (by omega) (by omega) (show (⟨plusR b c, plusR b a, plus b f, plus b f, b⟩ : T5).n = (⟨plusR b c, plusR b a, plus b f, plus b f, b⟩ : T5).t from rfl) (show 0 < aheadI (plusR b c) (plusR b a) from plus_ahead ha (by omega))]
    simp [T5.back, plus_up]
  have hhold : m.hold t = 0 := by rw [h.hold, if_neg (by omega)]
  obtain ⟨m', e, h1, h2, h3⟩ := whole_alone (t := t) same_next h.idle (by omega) (by decide) (by rw [hhold]; rfl) (by decide) hal
  rw [e]
  refine ⟨h1, h2, fun i => ?_⟩
  rw [h3, hhold]
  have hb : behindI 6 1 (fromI 6 0) = 0 := rfl
  rw [hb]
  unfold upd
  by_cases e : i = t
  · rw [if_pos e, if_neg (by omega)]
  · rw [if_neg e, h.hold]
theorem reads_last (hc : c < k) (ha : a = c) {t : Nat} (ht : t + 1 = k) (htc : c ≤ t) : (wholeI LS.pf m t 6).hold t = 2 ∧ ∀ i, i ≠ t → (wholeI LS.pf m t 6).hold i = 0 := by
  subst ha
  have hal : aloneG LS.stuck LS.pf 201 (newR k mode t 6 m.xs) = (2, (opP 6 ⟨plusR b a, plusR b a, plus b f, plus b f, b⟩).xs k) := by
    rw [h.xs, alone_pfG chk_stuck (by omega) (by omega) (show okP 6 ⟨plusR b a, plusR b a, plus b f, plus b f, b⟩ by unfold okP; simp)]
  have hhold : m.hold t = 0 := by rw [h.hold, if_neg (by omega)]
  obtain ⟨m', e, h1, h2, h3⟩ := whole_alone (t := t) same_next h.idle (by omega) (by decide) (by rw [hhold]; rfl) (by decide) hal
  rw [e, h3]
  refine ⟨?_, fun i hi => ?_⟩
  · rw [upd_same, hhold]; rfl
  · rw [upd_other _ _ hi, h.hold, if_neg (by omega)]
end
theorem reads_first {k : Nat} {mode b : Int} (hb : 0 ≤ b ∧ b < 4294967296) : Reads k mode b 0 0 0 ⟨fun i => newR k mode i 0 ((T5.at b).xs k), fun _ => 0, (T5.at b).xs k⟩ := by
  refine ⟨fun i hi => rfl, ?_, fun i => ?_⟩
  · rw [plus_zero hb, plusR_zero]; rfl
  · rw [if_neg (by omega)]
theorem many_none {m : MV} {t : Nat} (h : m.hold t = 2 ∧ ∀ i, i ≠ t → m.hold i = 0) : ∀ n, manyI m 1 n = 0 := by
  intro n
  induction n with
  | zero => rfl
  | succ n ih =>
    unfold manyI
    rw [ih, if_neg]
    by_cases e : n = t
    · subst e; rw [h.1]; decide
    · rw [h.2 n e]; decide
end Go.Proofs.Ytgfippbcgneegaa
set_option linter.unusedVariables false
set_option linter.unusedSimpArgs false
namespace Go.Proofs.Ytgfippbcgneegaa
open Go.RowKit
set_option maxRecDepth 100000 in
set_option maxHeartbeats 4000000 in
theorem walk_pfTogether (a0 a1 a2 : Int) (a3 : Bool) (w : World) (h0 : (Lit.int .u8 a0).wf = true) (h1 : (Lit.int .u8 a1).wf = true) (h2 : (Lit.int .u32 a2).wf = true) :
    Calls Try.prog 6 #[.int .u8 a0, .int .u8 a1, .int .u32 a2, .bool a3] w fun e w' => e = .returned (.bool true) ∧ Only Nil w w' := by
  have HBD := Lib.hid (wf_u32 h2)
  obtain ⟨n0, n1⟩ := wf_u8 h0
  obtain ⟨n2, n3⟩ := wf_u8 h1
  obtain ⟨k, hkk⟩ : ∃ k : Nat, 2 + a0 % 15 = (k : Int) := ⟨(2 + a0 % 15).toNat, by omega⟩
  obtain ⟨mode, hmm⟩ : ∃ mode : Int, 1 + a1 % 2 = mode := ⟨_, rfl⟩
  have HK := Lib.hid (show 2 ≤ k ∧ k ≤ 16 by omega)
  have HKK := Lib.hid hkk
  have HMM := Lib.hid hmm
  clear h0 h1 h2 hkk hmm
  cases a3
  · skip
    go_enter Try.func6, Try.ntmps6
    go_wp2_with fail
    rw [HKK.out, HMM.out]
    refine (begun_any k mode a2 _ (by have := HK.out; omega) HBD.out).mono ?_
    have HFST := Lib.hid (reads_first (k := k) (mode := mode) HBD.out)
    generalize hm0 : (⟨fun i => newR k mode i 0 ((T5.at a2).xs k), fun _ => 0, (T5.at a2).xs k⟩ : MV) = m0 at *
    clear hm0
    rintro e w1 ⟨X, GL, GH, B, p, A, cp, rfl, hM⟩
    have e0 := (Only.refl Nil w1).alloc (.cells #[Value.pointer (some ⟨X, 0, none⟩)] 41)
    have HM1 := Lib.hid ((hM.keep e0).beside (Row.new w1 41 #[Value.pointer (some ⟨X, 0, none⟩)]) ⟨by decide, by decide, by decide⟩ (by decide))
    clear hM e0
    go_upto_region 3 with (fail)
    generalize w1.alloc (.cells #[Value.pointer (some ⟨X, 0, none⟩)] 41) = w2 at *
    generalize w1.heap.size = gx at *
    have bx : w2.cell? ⟨gx, 0, none⟩ = some (Value.pointer (some ⟨X, 0, none⟩)) := (show Row w2 gx 41 #[Value.pointer (some ⟨X, 0, none⟩)] from HM1.out.side _ (.head _)).cell_ (i := 0) rfl
    go_wp2_with fail
    clear bx
    clear n0 n1 n2 n3
    have hk1 : (2 : Int) ≤ k := by have := HK.out; omega
    have hk2 : (k : Int) ≤ 16 := by have := HK.out; omega
    go_loopw [13] (fun iv wr => ∃ c : Nat, c + 1 ≤ k ∧ iv = .int .i64 c ∧ ∃ m, MatchP [(gx, 41, #[Value.pointer (some ⟨X, 0, none⟩)])] w X GL GH B p A cp k m wr ∧ Reads k mode a2 c 0 0 m) (fun iv _ => k - (intOf iv).toNat)
    case atStart => exact ⟨0, by have := HK.out; omega, rfl, m0, HM1.out, HFST.out⟩
    case round =>
      obtain ⟨c, hc, rfl, m, hM, hR⟩ := hrel
      clear HM1 HFST
      have HM := Lib.hid hM
      have HR := Lib.hid hR
      clear hM hR
      by_cases hlt : c + 1 < k
      · have hlt' : (c : Int) < (k : Int) - 1 := by omega
        have HR2 := Lib.hid (reads_come HK.out HR.out (op := 1) (by simp) (by omega) (Nat.zero_le _))
        have HMN := Lib.hid (show manyI (wholeI LS.pf m c 1) 1 k = c + 1 by rw [reads_many HR2.out k]; omega)
        go_wp2_with fail
        clear hlt'
        refine (whole_any _ w X GL GH B p A cp k m c 1 gx _ HM.out (by omega) (.head _)).mono ?_
        generalize wholeI LS.pf m c 1 = m2 at *
        rintro e w3 ⟨rfl, hM⟩
        have HM3 := Lib.hid hM
        clear hM HM HR
        have bx : w3.cell? ⟨gx, 0, none⟩ = some (Value.pointer (some ⟨X, 0, none⟩)) := (show Row w3 gx 41 #[Value.pointer (some ⟨X, 0, none⟩)] from HM3.out.side _ (.head _)).cell_ (i := 0) rfl
        go_wp2_with fail
        clear bx
        refine (many_any _ w X GL GH B p A cp k m2 1 _ HM3.out (by omega)).mono ?_
        rw [HMN.out]
        rintro e w4 ⟨rfl, rfl⟩
        have hcc : ((c + 1 : Nat) : Int) = (c : Int) + 1 := by push_cast; rfl
        rw [hcc]
        clear hcc
        go_wp2
        go_roundw
        case rel => exact ⟨c + 1, by omega, by go_num, m2, HM3.out, HR2.out⟩
        case measure => simp [intOf]; omega
      · have hlt' : ¬ (c : Int) < (k : Int) - 1 := by omega
        obtain rfl : k = c + 1 := by omega
        go_wp2_with fail
        clear hlt'
        go_loopw [14] (fun iv wr => ∃ a : Nat, a ≤ c ∧ iv = .int .i64 a ∧ ∃ m, MatchP [(gx, 41, #[Value.pointer (some ⟨X, 0, none⟩)])] w X GL GH B p A cp (c + 1) m wr ∧ Reads (c + 1) mode a2 c a a m) (fun iv _ => c - (intOf iv).toNat)
        case atStart => exact ⟨0, Nat.zero_le _, rfl, m, HM.out, HR.out⟩
        case round =>
          obtain ⟨a, ha, rfl, m, hM, hR⟩ := hrel
          clear HM HR
          have HM := Lib.hid hM
          have HR := Lib.hid hR
          clear hM hR
          by_cases hlt : a < c
          · have hlt' : (a : Int) < ((c + 1 : Nat) : Int) - 1 := by omega
            have HR2 := Lib.hid (reads_refuse HK.out HR.out (by omega) hlt (t := c) rfl (Nat.le_refl _))
            have HH0 := Lib.hid (show (wholeI LS.pf m c 6).hold c = 0 by rw [HR2.out.hold, if_neg (by omega)])
            go_wp2_with fail
            clear hlt'
            refine (whole_any _ w X GL GH B p A cp (c + 1) m c 6 gx _ HM.out (by omega) (.head _)).mono ?_
            generalize wholeI LS.pf m c 6 = m2 at *
            rintro e w3 ⟨rfl, hM⟩
            have HM3 := Lib.hid hM
            clear hM HM HR
            have bx : w3.cell? ⟨gx, 0, none⟩ = some (Value.pointer (some ⟨X, 0, none⟩)) := (show Row w3 gx 41 #[Value.pointer (some ⟨X, 0, none⟩)] from HM3.out.side _ (.head _)).cell_ (i := 0) rfl
            obtain ⟨cl, hx0⟩ := HM3.out.x
            obtain ⟨csh, hh0, hh1⟩ := HM3.out.h
            have x1 : w3.cell? ⟨X, 1, none⟩ = some (.slice (some ⟨GH, 0, none⟩) (c + 1) (c + 1)) := hx0.cell_ (i := 1) rfl
            have gh : w3.cell? ⟨GH, c, none⟩ = some (.int .i64 0) := by have e := hh0.cell_ (hh1 c (by omega)); rw [HH0.out] at e; exact e
            clear hx0 hh0 hh1
            have hidx : ((c + 1 : Nat) : Int) - 1 = ((c : Nat) : Int) := by push_cast; omega
            go_wp2_with fail
            clear bx x1 gh hidx
            have HR4 := Lib.hid (reads_go HK.out HR2.out (by omega) hlt)
            refine (whole_any _ w X GL GH B p A cp (c + 1) m2 a 2 gx _ HM3.out (by omega) (.head _)).mono ?_
            generalize wholeI LS.pf m2 a 2 = m4 at *
            rintro e w5 ⟨rfl, hM⟩
            have HM5 := Lib.hid hM
            clear hM HM3 HR2
            go_wp2
            go_roundw
            case rel => exact ⟨a + 1, by omega, by go_num, m4, HM5.out, HR4.out⟩
            case measure => simp [intOf]; omega
          · have hlt' : ¬ (a : Int) < ((c + 1 : Nat) : Int) - 1 := by omega
            obtain rfl : a = c := by omega
            have HR2 := Lib.hid (reads_last HK.out HR.out (by omega) rfl (t := a) rfl (Nat.le_refl _))
            go_wp2_with fail
            clear hlt'
            refine (whole_any _ w X GL GH B p A cp (a + 1) m a 6 gx _ HM.out (by omega) (.head _)).mono ?_
            generalize wholeI LS.pf m a 6 = m2 at *
            rintro e w3 ⟨rfl, hM⟩
            have HM3 := Lib.hid hM
            have HMN := Lib.hid (many_none HR2.out (a + 1))
            clear hM HM HR
            have bx : w3.cell? ⟨gx, 0, none⟩ = some (Value.pointer (some ⟨X, 0, none⟩)) := (show Row w3 gx 41 #[Value.pointer (some ⟨X, 0, none⟩)] from HM3.out.side _ (.head _)).cell_ (i := 0) rfl
            obtain ⟨cl, hx0⟩ := HM3.out.x
            obtain ⟨csh, hh0, hh1⟩ := HM3.out.h
            have x1 : w3.cell? ⟨X, 1, none⟩ = some (.slice (some ⟨GH, 0, none⟩) (a + 1) (a + 1)) := hx0.cell_ (i := 1) rfl
            have gh : w3.cell? ⟨GH, a, none⟩ = some (.int .i64 2) := by have e := hh0.cell_ (hh1 a (by omega)); rw [HR2.out.1] at e; exact e
            clear hx0 hh0 hh1
            have hidx : ((a + 1 : Nat) : Int) - 1 = ((a : Nat) : Int) := by push_cast; omega
            go_wp2_with fail
            clear bx x1 gh hidx
            refine (many_any _ w X GL GH B p A cp (a + 1) m2 1 _ HM3.out (by have := HK.out; omega)).mono ?_
            rw [HMN.out]
            rintro e w4 ⟨rfl, rfl⟩
            rw [show ((0 : Nat) : Int) = 0 from rfl]
            go_wp2_with fail
            refine (awake_any _).mono ?_
            rintro e w9 ⟨rfl, hO⟩
            have HO9 := Lib.hid (HM3.out.only.trans hO)
            clear hO
            go_wp2
            go_ret
            exact ⟨rfl, HO9.out⟩
  · skip
    go_enter Try.func6, Try.ntmps6
    go_wp2_with fail
    rw [HKK.out, HMM.out]
    refine (begun_any k mode a2 _ (by have := HK.out; omega) HBD.out).mono ?_
    have HFST := Lib.hid (reads_first (k := k) (mode := mode) HBD.out)
    generalize hm0 : (⟨fun i => newR k mode i 0 ((T5.at a2).xs k), fun _ => 0, (T5.at a2).xs k⟩ : MV) = m0 at *
    clear hm0
    rintro e w1 ⟨X, GL, GH, B, p, A, cp, rfl, hM⟩
    have e0 := (Only.refl Nil w1).alloc (.cells #[Value.pointer (some ⟨X, 0, none⟩)] 41)
    have HM1 := Lib.hid ((hM.keep e0).beside (Row.new w1 41 #[Value.pointer (some ⟨X, 0, none⟩)]) ⟨by decide, by decide, by decide⟩ (by decide))
    clear hM e0
    go_upto_region 3 with (fail)
    generalize w1.alloc (.cells #[Value.pointer (some ⟨X, 0, none⟩)] 41) = w2 at *
    generalize w1.heap.size = gx at *
    have bx : w2.cell? ⟨gx, 0, none⟩ = some (Value.pointer (some ⟨X, 0, none⟩)) := (show Row w2 gx 41 #[Value.pointer (some ⟨X, 0, none⟩)] from HM1.out.side _ (.head _)).cell_ (i := 0) rfl
    go_wp2_with fail
    clear bx
    clear n0 n1 n2 n3
    have hk1 : (2 : Int) ≤ k := by have := HK.out; omega
    have hk2 : (k : Int) ≤ 16 := by have := HK.out; omega
    go_loopw [13] (fun iv wr => ∃ c : Nat, c + 1 ≤ k ∧ iv = .int .i64 c ∧ ∃ m, MatchP [(gx, 41, #[Value.pointer (some ⟨X, 0, none⟩)])] w X GL GH B p A cp k m wr ∧ Reads k mode a2 c 0 0 m) (fun iv _ => k - (intOf iv).toNat)
    case atStart => exact ⟨0, by have := HK.out; omega, rfl, m0, HM1.out, HFST.out⟩
    case round =>
      obtain ⟨c, hc, rfl, m, hM, hR⟩ := hrel
      clear HM1 HFST
      have HM := Lib.hid hM
      have HR := Lib.hid hR
      clear hM hR
      by_cases hlt : c + 1 < k
      · have hlt' : (c : Int) < (k : Int) - 1 := by omega
        have HR2 := Lib.hid (reads_come HK.out HR.out (op := 5) (by simp) (by omega) (Nat.zero_le _))
        have HMN := Lib.hid (show manyI (wholeI LS.pf m c 5) 1 k = c + 1 by rw [reads_many HR2.out k]; omega)
        go_wp2_with fail
        clear hlt'
        refine (whole_any _ w X GL GH B p A cp k m c 5 gx _ HM.out (by omega) (.head _)).mono ?_
        generalize wholeI LS.pf m c 5 = m2 at *
        rintro e w3 ⟨rfl, hM⟩
        have HM3 := Lib.hid hM
        clear hM HM HR
        have bx : w3.cell? ⟨gx, 0, none⟩ = some (Value.pointer (some ⟨X, 0, none⟩)) := (show Row w3 gx 41 #[Value.pointer (some ⟨X, 0, none⟩)] from HM3.out.side _ (.head _)).cell_ (i := 0) rfl
        go_wp2_with fail
        clear bx
        refine (many_any _ w X GL GH B p A cp k m2 1 _ HM3.out (by omega)).mono ?_
        rw [HMN.out]
        rintro e w4 ⟨rfl, rfl⟩
        have hcc : ((c + 1 : Nat) : Int) = (c : Int) + 1 := by push_cast; rfl
        rw [hcc]
        clear hcc
        go_wp2
        go_roundw
        case rel => exact ⟨c + 1, by omega, by go_num, m2, HM3.out, HR2.out⟩
        case measure => simp [intOf]; omega
      · have hlt' : ¬ (c : Int) < (k : Int) - 1 := by omega
        obtain rfl : k = c + 1 := by omega
        go_wp2_with fail
        clear hlt'
        go_loopw [14] (fun iv wr => ∃ a : Nat, a ≤ c ∧ iv = .int .i64 a ∧ ∃ m, MatchP [(gx, 41, #[Value.pointer (some ⟨X, 0, none⟩)])] w X GL GH B p A cp (c + 1) m wr ∧ Reads (c + 1) mode a2 c a a m) (fun iv _ => c - (intOf iv).toNat)
        case atStart => exact ⟨0, Nat.zero_le _, rfl, m, HM.out, HR.out⟩
        case round =>
          obtain ⟨a, ha, rfl, m, hM, hR⟩ := hrel
          clear HM HR
          have HM := Lib.hid hM
          have HR := Lib.hid hR
          clear hM hR
          by_cases hlt : a < c
          · have hlt' : (a : Int) < ((c + 1 : Nat) : Int) - 1 := by omega
            have HR2 := Lib.hid (reads_refuse HK.out HR.out (by omega) hlt (t := c) rfl (Nat.le_refl _))
            have HH0 := Lib.hid (show (wholeI LS.pf m c 6).hold c = 0 by rw [HR2.out.hold, if_neg (by omega)])
            go_wp2_with fail
            clear hlt'
            refine (whole_any _ w X GL GH B p A cp (c + 1) m c 6 gx _ HM.out (by omega) (.head _)).mono ?_
            generalize wholeI LS.pf m c 6 = m2 at *
            rintro e w3 ⟨rfl, hM⟩
            have HM3 := Lib.hid hM
            clear hM HM HR
            have bx : w3.cell? ⟨gx, 0, none⟩ = some (Value.pointer (some ⟨X, 0, none⟩)) := (show Row w3 gx 41 #[Value.pointer (some ⟨X, 0, none⟩)] from HM3.out.side _ (.head _)).cell_ (i := 0) rfl
            obtain ⟨cl, hx0⟩ := HM3.out.x
            obtain ⟨csh, hh0, hh1⟩ := HM3.out.h
            have x1 : w3.cell? ⟨X, 1, none⟩ = some (.slice (some ⟨GH, 0, none⟩) (c + 1) (c + 1)) := hx0.cell_ (i := 1) rfl
            have gh : w3.cell? ⟨GH, c, none⟩ = some (.int .i64 0) := by have e := hh0.cell_ (hh1 c (by omega)); rw [HH0.out] at e; exact e
            clear hx0 hh0 hh1
            have hidx : ((c + 1 : Nat) : Int) - 1 = ((c : Nat) : Int) := by push_cast; omega
            go_wp2_with fail
            clear bx x1 gh hidx
            have HR4 := Lib.hid (reads_go HK.out HR2.out (by omega) hlt)
            refine (whole_any _ w X GL GH B p A cp (c + 1) m2 a 2 gx _ HM3.out (by omega) (.head _)).mono ?_
            generalize wholeI LS.pf m2 a 2 = m4 at *
            rintro e w5 ⟨rfl, hM⟩
            have HM5 := Lib.hid hM
            clear hM HM3 HR2
            go_wp2
            go_roundw
            case rel => exact ⟨a + 1, by omega, by go_num, m4, HM5.out, HR4.out⟩
            case measure => simp [intOf]; omega
          · have hlt' : ¬ (a : Int) < ((c + 1 : Nat) : Int) - 1 := by omega
            obtain rfl : a = c := by omega
            have HR2 := Lib.hid (reads_last HK.out HR.out (by omega) rfl (t := a) rfl (Nat.le_refl _))
            go_wp2_with fail
            clear hlt'
            refine (whole_any _ w X GL GH B p A cp (a + 1) m a 6 gx _ HM.out (by omega) (.head _)).mono ?_
            generalize wholeI LS.pf m a 6 = m2 at *
            rintro e w3 ⟨rfl, hM⟩
            have HM3 := Lib.hid hM
            have HMN := Lib.hid (many_none HR2.out (a + 1))
            clear hM HM HR
            have bx : w3.cell? ⟨gx, 0, none⟩ = some (Value.pointer (some ⟨X, 0, none⟩)) := (show Row w3 gx 41 #[Value.pointer (some ⟨X, 0, none⟩)] from HM3.out.side _ (.head _)).cell_ (i := 0) rfl
            obtain ⟨cl, hx0⟩ := HM3.out.x
            obtain ⟨csh, hh0, hh1⟩ := HM3.out.h
            have x1 : w3.cell? ⟨X, 1, none⟩ = some (.slice (some ⟨GH, 0, none⟩) (a + 1) (a + 1)) := hx0.cell_ (i := 1) rfl
            have gh : w3.cell? ⟨GH, a, none⟩ = some (.int .i64 2) := by have e := hh0.cell_ (hh1 a (by omega)); rw [HR2.out.1] at e; exact e
            clear hx0 hh0 hh1
            have hidx : ((a + 1 : Nat) : Int) - 1 = ((a : Nat) : Int) := by push_cast; omega
            go_wp2_with fail
            clear bx x1 gh hidx
            refine (many_any _ w X GL GH B p A cp (a + 1) m2 1 _ HM3.out (by have := HK.out; omega)).mono ?_
            rw [HMN.out]
            rintro e w4 ⟨rfl, rfl⟩
            rw [show ((0 : Nat) : Int) = 0 from rfl]
            go_wp2_with fail
            refine (awake_any _).mono ?_
            rintro e w9 ⟨rfl, hO⟩
            have HO9 := Lib.hid (HM3.out.only.trans hO)
            clear hO
            go_wp2
            go_ret
            exact ⟨rfl, HO9.out⟩
end Go.Proofs.Ytgfippbcgneegaa
