import Derived.Deep.OwnRows
import Derived.Test.YtgfippbcgneegaaK18
import Derived.Test.YtgfippbcgneegaaK11
import Derived.Test.YtgfippbcgneegaaK17
import Derived.Test.YtgfippbcgneegaaK2
set_option linter.unusedVariables false
set_option linter.unusedSimpArgs false
namespace Go.Proofs.Ytgfippbcgneegaa
open Go.RowKit
theorem aw_alone {m : Nat} (h : m = 3) : aloneL LS.tf m (newR (1 : Nat) 1 0 1 ((⟨0, 0, 0⟩ : T3).xs 1)) = (2, (⟨1, 1, 0⟩ : T3).xs 1) := by
  subst h
  decide
set_option maxHeartbeats 1000000 in
theorem awake_any (w : World) : Calls Try.prog 18 #[] w fun e w' => e = .returned (.bool true) ∧ Only Nil w w' := by
  go_enter Try.func18, Try.ntmps18
  go_wp2_with fail
  refine (first_tf 1 0 _ (by decide) (by decide)).mono ?_
  rintro e w1 ⟨g, rfl, hg, hH, hO⟩
  have HH := Lib.hid hH
  have HO := Lib.hid hO
  clear hg hH hO
  go_wp2_with fail
  refine (from_ok _ _ _ _ _ (by decide) HH.out).mono ?_
  rintro e w2 ⟨b, A', c', rfl, hb, hA, hM, hO⟩
  have HM : Hid (Made w b A' c' _ w2) := Lib.hid ⟨hM, fun j hj => Nat.le_trans HO.out.size (hA j hj), HO.out.trans hO⟩
  clear hb hA hM hO HO HH
  go_wp2_with fail
  refine (alone_any (some ⟨b, 0, none⟩) A' c' 1 1 1 3 _ _ (Memo.of HM.out.mem) (T3.words (by decide) (by decide) (by decide)) (by decide)).mono ?_
  rw [show aloneL LS.tf 3 (newR 1 1 0 1 ((⟨0, 0, 0⟩ : T3).xs 1)) = (2, (⟨1, 1, 0⟩ : T3).xs 1) from aw_alone rfl]
  rintro e w3 ⟨nv, rfl, hO, hM, _⟩
  have HM3 := Lib.hid (HM.out.call hO hM.mem)
  clear hO hM HM
  go_wp2_with fail
  refine (load_any b A' c' _ 0 _ HM3.out.mem).mono ?_
  rw [show wordAt ((⟨1, 1, 0⟩ : T3).xs 1) 0 = 1 from rfl]
  rintro e w4 ⟨rfl, hO, hM⟩
  have HM4 := Lib.hid (HM3.out.call hO hM)
  clear hO hM HM3
  go_wp2_with fail
  refine (load_any b A' c' _ 1 _ HM4.out.mem).mono ?_
  rw [show wordAt ((⟨1, 1, 0⟩ : T3).xs 1) 1 = 1 from rfl]
  rintro e w5 ⟨rfl, hO, hM⟩
  have HM5 := Lib.hid (HM4.out.call hO hM)
  clear hO hM HM4
  go_wp2_with fail
  refine (load_any b A' c' _ 2 _ HM5.out.mem).mono ?_
  rw [show wordAt ((⟨1, 1, 0⟩ : T3).xs 1) 2 = 0 from rfl]
  rintro e w6 ⟨rfl, hO, hM⟩
  have HM6 := Lib.hid (HM5.out.call hO hM)
  clear hO hM HM5
  go_wp2
  go_ret
  exact ⟨rfl, HM6.out.only⟩
end Go.Proofs.Ytgfippbcgneegaa
set_option linter.unusedVariables false
set_option linter.unusedSimpArgs false
namespace Go.Proofs.Ytgfippbcgneegaa
open Go.RowKit
theorem many_bd (m : MV) (what : Int) : ∀ k, manyI m what k ≤ k
  | 0 => Nat.le_refl _
  | k + 1 => by
    have := many_bd m what k
    unfold manyI
    split <;> omega
theorem many_any (L : List (Nat × TypeId × Array Value)) (w0 : World) (X GL GH : Nat) (B : Nat → Nat) (p A : Option Addr) (cp k : Nat) (m : MV) (what : Int) (w : World) (h : MatchP L w0 X GL GH B p A cp k m w) (hk : k ≤ 1000) :
    Calls Try.prog 20 #[Value.pointer (some ⟨X, 0, none⟩), .int .i64 what] w fun e w' => e = .returned (.int .i64 (manyI m what k)) ∧ w = w' := by
  obtain ⟨cl, hx0⟩ := h.x
  obtain ⟨csh, hh0, hh1⟩ := h.h
  have x1 : w.cell? ⟨X, 1, none⟩ = some (.slice (some ⟨GH, 0, none⟩) k k) := hx0.cell_ (i := 1) rfl
  have HH := Lib.hid (show ∀ i, i < k → w.cell? ⟨GH, i, none⟩ = some (.int .i64 (m.hold i)) from fun i hi => hh0.cell_ (hh1 i hi))
  clear h hx0 hh0 hh1
  go_enter Try.func20, Try.ntmps20
  go_wp2_with fail
  go_loop [5, 6] (fun nv iv => ∃ i : Nat, i ≤ k ∧ iv = .int .i64 i ∧ nv = .int .i64 (manyI m what i)) (fun _ iv => k - (intOf iv).toNat)
  case atStart => exact ⟨0, Nat.zero_le _, rfl, rfl⟩
  case round =>
    obtain ⟨i, hi, rfl, rfl⟩ := hrel
    have b1 := many_bd m what i
    by_cases hlt : i < k
    · have gh := HH.out i hlt
      have HS := Lib.hid (show manyI m what (i + 1) = if m.hold i = what then manyI m what i + 1 else manyI m what i from rfl)
      by_cases he : m.hold i = what
      · have he' : (m.hold i == what) = true := beq_iff_eq.2 he
        have HE := Lib.hid (HS.out.trans (if_pos he))
        clear he
        generalize manyI m what i = c at *
        generalize m.hold i = hv at *
        go_wp2
        go_round
        case rel => exact ⟨i + 1, by omega, by go_num, by rw [HE.out]; first | done | go_num⟩
        case measure => simp [intOf]; omega
      · have he' : (m.hold i == what) = false := beq_eq_false_iff_ne.2 he
        have HE := Lib.hid (HS.out.trans (if_neg he))
        clear he
        generalize manyI m what i = c at *
        generalize m.hold i = hv at *
        go_wp2
        go_round
        case rel => exact ⟨i + 1, by omega, by go_num, by rw [HE.out]; first | done | go_num⟩
        case measure => simp [intOf]; omega
    · obtain rfl : i = k := by omega
      go_wp2
      go_ret
      exact ⟨rfl, rfl⟩
def OwnP (base : Nat) (w : World) (v : Value) (bs : List Nat) : Prop := w.ownsRow base 62 1 v bs.length (bs.map fun b => Value.pointer (some ⟨b, 0, none⟩))
theorem infoP : (Try.prog.info? 62).map (fun i => (i.zero, i.size, i.bytes)) = some (some (.pointer none), 1, 8) := by kernel_rfl
theorem infoI : (Try.prog.info? 3).map (fun i => (i.zero, i.size, i.bytes)) = some (some (.int .i64 0), 1, 8) := by kernel_rfl
theorem ownP_nil (base : Nat) (w : World) : OwnP base w (.slice none 0 0) [] := World.ownsRow_nil _ _ _ _
theorem ownP_tag {base : Nat} {w : World} {v : Value} {bs : List Nat} (h : OwnP base w v bs) {i : Nat} (hi : v.ownBlock = some i) : ∃ cur, Row w i 62 cur := by
  rcases h.2 with ⟨rfl, _⟩ | ⟨g, cap, cur, rfl, _, hg, _⟩
  · cases hi
  · have e : g = i := by simpa [Value.ownBlock] using hi
    subst e
    exact ⟨cur, hg⟩
theorem ownP_form {base : Nat} {w : World} {v : Value} {bs : List Nat} (h : OwnP base w v bs) : ∃ A n c, v = .slice A n c := by
  rcases h.2 with ⟨rfl, _⟩ | ⟨g, cap, cur, rfl, _⟩
  · exact ⟨none, 0, 0, rfl⟩
  · exact ⟨_, _, _, rfl⟩
theorem wp_appP {w : World} {ops : Array Oper} {rest : List Oper} {o : Oper} {a : Act} {Q : Exit → Act → World → Prop} (hgd : o.guard = none) (s x : Operand)
    (ho : o.op = .call { callee := .builtin .append, args := #[s, x], argTypes := #[47, 47] })
    (base : Nat) (v : Value) (bs : List Nat) (hs : a.eval s = v) (hown : OwnP base w v bs)
    (g nb : Nat) (hx : a.eval x = .slice (some ⟨g, 0, none⟩) 1 1) (hrow : Row w g 62 #[.pointer (some ⟨nb, 0, none⟩)])
    (h1 : bs.length ≤ 1000) (hbase : base ≤ w.heap.size)
    (h : ∀ v' w', OwnP base w' v' (bs ++ [nb]) → Only (fun k => v.ownBlock = some k) w w' → wpList Try.prog ops Q rest (a.put o.dst v') w') : wpList Try.prog ops Q (o :: rest) a w := by
  obtain ⟨i0, hi, hz0, hz1, hz2⟩ := info_parts infoP
  refine wpList_append_own w hgd s x 47 ho base 62 i0 (.pointer none) 1 8 Try.underlying47 hi hz0 hz1 hz2 rfl (by decide) v bs.length _ hs hown ⟨g, 0, none⟩ 1 1 [.pointer (some ⟨nb, 0, none⟩)] hx rfl (fun j u hj => ?_) (fun u hu => ?_) (by unfold maxLen; omega) (by omega) hbase (fun v' w' hO hG _ => ?_)
  · rw [add_at, Nat.zero_add]
    exact hrow.cell_ (by rw [← hj]; simp)
  · simp only [List.mem_cons, List.not_mem_nil, or_false] at hu
    subst hu
    rfl
  · refine h v' w' ?_ ((Only.refl _ w).grown hG (fun k hk => .inr hk))
    unfold OwnP
    rw [List.length_append, List.map_append]
    exact hO
structure BegunI (w0 : World) (X GH b : Nat) (A : Option Addr) (cp k : Nat) (mode : Int) (xs : List Int) (j : Nat) (W : World) : Prop where
  x : ∃ lv bs, Row W X 70 #[lv, .slice (some ⟨GH, 0, none⟩) k k] ∧ OwnP w0.heap.size W lv bs ∧ bs.length = j ∧ (∀ (i : Nat) (b' : Nat), bs[i]? = some b' → Row W b' 61 (newCells (some ⟨b, 0, none⟩) k mode i 0) ∧ w0.heap.size ≤ b') ∧ (∀ (i i' b' : Nat), bs[i]? = some b' → bs[i']? = some b' → i = i')
  h : ∃ cs, Row W GH 3 cs ∧ ∀ i, i < k → cs[i]? = some (.int .i64 0)
  made : Made w0 b A cp xs W
  gh : w0.heap.size ≤ GH
  xb : w0.heap.size ≤ X
theorem made_zero (k i : Nat) (hi : i < k) : (madeCells #[.int .i64 0] k)[i]? = some (.int .i64 0) := by
  rw [← Array.getElem?_toList, toList_madeCells_one, List.getElem?_replicate, if_pos hi]
def BegunP (k : Nat) (m : MV) (w : World) (e : Ending) (w' : World) : Prop := ∃ X GL GH B p A cp, e = .returned (Value.pointer (some ⟨X, 0, none⟩)) ∧ MatchP [] w X GL GH B p A cp k m w'
set_option maxRecDepth 100000 in
set_option maxHeartbeats 2000000 in
theorem begun_any (k : Nat) (mode b0 : Int) (w : World) (hk : 1 ≤ k ∧ k ≤ 64) (hb : 0 ≤ b0 ∧ b0 < 4294967296) :
    Calls Try.prog 17 #[.int .i64 k, .int .i64 mode, .int .u32 b0] w (BegunP k ⟨fun i => newR k mode i 0 ((⟨b0, b0, b0⟩ : T3).xs k), fun _ => 0, ((⟨b0, b0, b0⟩ : T3).xs k)⟩ w) := by
  have HBD := Lib.hid hb
  have HK := Lib.hid hk
  have hk1 : (1 : Int) ≤ k := by omega
  have hk2 : (k : Int) ≤ 64 := by omega
  have hk3 : k ≤ 64 := by omega
  clear hb hk
  have hmk := fun W => run_make_row' (P := Try.prog) 23 3 (.int .i64 0) 8 Try.underlying23 infoI rfl .i64 .i64 k (by omega) (by omega) W
  go_enter Try.func17, Try.ntmps17
  go_wp2_with fail
  refine (first_tf k b0 _ HK.out HBD.out).mono ?_
  rintro e w1 ⟨gf, rfl, hg, hH, hO⟩
  have HH := Lib.hid hH
  have HO := Lib.hid hO
  clear hg hH hO
  go_wp2_with fail
  refine (from_ok _ _ _ _ _ (by omega) HH.out).mono ?_
  rintro e w2 ⟨b, A', c', rfl, hb, hA, hM, hO⟩
  have HM : Hid (Made w b A' c' _ w2) := Lib.hid ⟨hM, fun j hj => Nat.le_trans HO.out.size (hA j hj), HO.out.trans hO⟩
  clear hb hA hM hO HO HH
  have e1 := (Only.refl Nil w2).alloc (.cells (madeCells #[.int .i64 0] k) 3)
  have e2 := e1.alloc (.cells #[.slice none 0 0, .slice (some ⟨w2.heap.size, 0, none⟩) k k] 70)
  have HI0 : Hid (BegunI w (w2.heap.size + 1) w2.heap.size b A' c' k mode ((⟨b0, b0, b0⟩ : T3).xs k) 0 ((w2.alloc (.cells (madeCells #[.int .i64 0] k) 3)).alloc (.cells #[.slice none 0 0, .slice (some ⟨w2.heap.size, 0, none⟩) k k] 70))) :=
    Lib.hid ⟨⟨_, [], Row.new2 w2 _ _ _, ownP_nil _ _, rfl, fun i b' h => by simp at h, fun i i' b' h => by simp at h⟩, ⟨_, (Row.new w2 _ _).alloc _, fun i hi => made_zero k i hi⟩, ⟨HM.out.mem.only e2 id (fun _ _ => id), HM.out.new, HM.out.only.trans e2⟩, HM.out.only.size, Nat.le_trans HM.out.only.size (Nat.le_succ _)⟩
  clear e1 e2 HM
  go_upto_region 7 with (fail)
  generalize (w2.alloc (.cells (madeCells #[.int .i64 0] k) 3)).alloc (.cells #[.slice none 0 0, .slice (some ⟨w2.heap.size, 0, none⟩) k k] 70) = w3 at *
  generalize w2.heap.size + 1 = X at *
  generalize w2.heap.size = GH at *
  clear hmk
  go_loopw [12] (fun iv wr => ∃ j : Nat, j ≤ k ∧ iv = .int .i64 j ∧ BegunI w X GH b A' c' k mode ((⟨b0, b0, b0⟩ : T3).xs k) j wr) (fun iv _ => k - (intOf iv).toNat)
  case atStart => exact ⟨0, Nat.zero_le _, rfl, HI0.out⟩
  case round =>
    obtain ⟨j, hj, rfl, hI⟩ := hrel
    clear HI0
    obtain ⟨lv, bs, hx, hown, hlen, hruns, hinj⟩ := hI.x
    have HI := Lib.hid hI
    have HX := Lib.hid hx
    have HOW := Lib.hid hown
    have HLN := Lib.hid hlen
    have HRU := Lib.hid hruns
    have HIN := Lib.hid hinj
    clear hI hlen hruns hinj
    by_cases hlt : j < k
    · obtain ⟨A9, n9, c9, rfl⟩ := ownP_form hown
      have cx : wr.cell? ⟨X, 0, none⟩ = some (.slice A9 n9 c9) := hx.cell_ (i := 0) rfl
      clear hx hown
      have e1 := (Only.refl Nil wr).alloc (.cells (newCells (some ⟨b, 0, none⟩) k mode j 0) 61)
      have e2 := e1.alloc (.cells #[.pointer (some ⟨wr.heap.size, 0, none⟩)] 62)
      have HE2 := Lib.hid e2
      have HRN := Lib.hid ((Row.new wr 61 (newCells (some ⟨b, 0, none⟩) k mode j 0)).alloc (.cells #[.pointer (some ⟨wr.heap.size, 0, none⟩)] 62))
      have HPN := Lib.hid (Row.new2 wr (.cells (newCells (some ⟨b, 0, none⟩) k mode j 0) 61) 62 #[.pointer (some ⟨wr.heap.size, 0, none⟩)])
      have HBASE := Lib.hid (Nat.le_trans HI.out.made.only.size e2.size)
      clear e1 e2
      unfold newCells at HE2 HRN HPN HBASE
      go_wp2_with (at_builtin; refine wp_appP rfl (.tmp 43) (.tmp 51) rfl w.heap.size _ bs (by rfl) (own_only HOW.out HE2.out (fun _ _ => id)) (wr.heap.size + 1) wr.heap.size (by rfl) HPN.out (by have := HLN.out; omega) HBASE.out ?_)
      intro v' w5 hown5 hO5
      obtain ⟨A8, n8, c8, rfl⟩ := ownP_form hown5
      clear cx
      have HX5 := Lib.hid ((HX.out.only HE2.out id).only hO5 (fun e => by
        obtain ⟨cur, hc⟩ := ownP_tag HOW.out e
        exact row_ne HX.out hc (by decide) rfl))
      have HFAR := Lib.hid (show ∀ (g : Nat) (t : TypeId) (cs : Array Value), Row wr g t cs → t ≠ 62 → Row w5 g t cs from fun g t cs hr ht => (hr.only HE2.out id).only hO5 (fun e => by
        obtain ⟨cur, hc⟩ := ownP_tag HOW.out e
        exact row_ne hr hc ht rfl))
      have HRN5 := Lib.hid (HRN.out.only hO5 (fun e => by
        have := (World.ownsRow.lt HOW.out _ e).2
        omega))
      have HM5 : Hid (Made w b A' c' ((⟨b0, b0, b0⟩ : T3).xs k) w5) := Lib.hid ⟨(HI.out.made.mem.only HE2.out id (fun _ _ => id)).only hO5 (fun e => by
          obtain ⟨cur, hc⟩ := ownP_tag HOW.out e
          exact row_ne HI.out.made.mem.hdr hc (by decide) rfl) (fun i hi e => by
          obtain ⟨cur, hc⟩ := ownP_tag HOW.out e
          exact memo_not (Memo.of HI.out.made.mem) hc (by decide) (by decide) (.inr hi)), HI.out.made.new, (HI.out.made.only.trans HE2.out).step hO5 (fun i hi e => by
          have := (World.ownsRow.lt HOW.out _ e).1
          omega)⟩
      have HOW5 := Lib.hid hown5
      have HWS := Lib.hid (show wr.heap.size < w5.heap.size from by
        have h1 := hO5.size
        have h2 : wr.heap.size < ((wr.alloc (.cells #[.pointer (some ⟨b, 0, none⟩), .int .i64 k, .int .i64 mode, .int .i64 j, .int .i64 0, .int .i64 0, .int .u32 0, .int .u32 0, .int .i64 0, .bool false, .int .i64 0, .int .i64 0, .bool false, .int .i64 0, .int .i64 0, .int .i64 0, .int .u32 0, .int .u32 0, .int .u32 0, .slice none 0 0] 61)).alloc (.cells #[.pointer (some ⟨wr.heap.size, 0, none⟩)] 62)).heap.size := by simp; omega
        omega)
      have y0 : w5.cell? ⟨X, 0, none⟩ = some (.slice A9 n9 c9) := HX5.out.cell_ (i := 0) rfl
      have yf : w5.frozen? ⟨X, 0, none⟩ = false := HX5.out.frozen 0
      clear hown5 hO5
      go_wp2
      clear y0 yf
      have HO6 := Lib.hid ((Only.refl (· = X) w5).setCell (p := ⟨X, 0, none⟩) (.inr rfl) (.slice A8 n8 c8))
      have hI' : BegunI w X GH b A' c' k mode ((⟨b0, b0, b0⟩ : T3).xs k) (j + 1) (w5.setCell ⟨X, 0, none⟩ (.slice A8 n8 c8)) := by
        refine ⟨⟨.slice A8 n8 c8, bs ++ [wr.heap.size], HX5.out.set 0 (.slice A8 n8 c8), own_only HOW5.out HO6.out (fun i hi e => ?_), by rw [List.length_append, HLN.out]; rfl, fun i b' hb' => ?_, fun i i' b' h1 h2 => ?_⟩, ?_, ⟨HM5.out.mem.only HO6.out (fun e => row_ne HM5.out.mem.hdr HX5.out (by decide) e) (fun i hi e => memo_not (Memo.of HM5.out.mem) HX5.out (by decide) (by decide) (by subst e; exact .inr hi)), HM5.out.new, HM5.out.only.setCell (.inl HI.out.xb) _⟩, HI.out.gh, HI.out.xb⟩
        · obtain ⟨cur, hc⟩ := ownP_tag HOW5.out hi
          exact row_ne hc HX5.out (by decide) e
        · by_cases hi : i < bs.length
          · rw [List.getElem?_append_left hi] at hb'
            obtain ⟨hr, hb0⟩ := HRU.out i b' hb'
            exact ⟨(HFAR.out _ _ _ hr (by decide)).only HO6.out (fun e => row_ne (HFAR.out _ _ _ hr (by decide)) HX5.out (by decide) e), hb0⟩
          · rw [List.getElem?_append_right (by omega)] at hb'
            have hij : i = bs.length := by
              by_cases e : i = bs.length
              · exact e
              · rw [List.getElem?_eq_none (by simp; omega)] at hb'
                cases hb'
            subst hij
            simp only [Nat.sub_self, List.getElem?_cons_zero, Option.some.injEq] at hb'
            subst hb'
            rw [HLN.out]
            exact ⟨HRN5.out.only HO6.out (fun e => row_ne HRN5.out HX5.out (by decide) e), HI.out.made.only.size⟩
        · have hlt1 : ∀ (q : Nat), bs[q]? = some b' → b' < wr.heap.size := fun q hq => (HRU.out q b' hq).1.lt
          by_cases hi : i < bs.length
          · by_cases hi' : i' < bs.length
            · rw [List.getElem?_append_left hi] at h1
              rw [List.getElem?_append_left hi'] at h2
              exact HIN.out i i' b' h1 h2
            · rw [List.getElem?_append_left hi] at h1
              have := hlt1 i h1
              rw [List.getElem?_append_right (by omega)] at h2
              have := List.mem_of_getElem? h2
              simp only [List.mem_cons, List.not_mem_nil, or_false] at this
              omega
          · by_cases hi' : i' < bs.length
            · rw [List.getElem?_append_left hi'] at h2
              have := hlt1 i' h2
              rw [List.getElem?_append_right (by omega)] at h1
              have := List.mem_of_getElem? h1
              simp only [List.mem_cons, List.not_mem_nil, or_false] at this
              omega
            · have l1 := (List.getElem?_eq_some_iff.1 h1).1
              have l2 := (List.getElem?_eq_some_iff.1 h2).1
              rw [List.length_append] at l1 l2
              simp only [List.length_cons, List.length_nil] at l1 l2
              omega
        · obtain ⟨cs, hc, hz⟩ := HI.out.h
          exact ⟨cs, (HFAR.out _ _ _ hc (by decide)).only HO6.out (fun e => row_ne (HFAR.out _ _ _ hc (by decide)) HX5.out (by decide) e), hz⟩
      go_roundw
      case rel => exact ⟨j + 1, by omega, by go_num, hI'⟩
      case measure => simp [intOf]; omega
    · obtain rfl : j = k := by omega
      clear hx hown
      go_wp2
      go_ret
      rcases HOW.out.2 with ⟨_, hn⟩ | ⟨g, cap, cur, rfl, hb, hg, hc, hm, hsz, ht⟩
      · have := HLN.out; have := HK.out; omega
      · have hcur : ∀ i, i < j → cur[i]? = some (.pointer (some ⟨bs.getD i 0, 0, none⟩)) := fun i hi => by
          have e1 : (cur.toList.take (bs.length * 1))[i]? = (bs.map fun b => Value.pointer (some ⟨b, 0, none⟩))[i]? := by rw [ht]
          have hib : i < bs.length := by rw [HLN.out]; exact hi
          rw [List.getElem?_take, if_pos (by omega), List.getElem?_map, List.getElem?_eq_getElem hib] at e1
          simp only [Option.map_some, Array.getElem?_toList] at e1
          rw [e1]
          simp [List.getD, List.getElem?_eq_getElem hib]
        have hget : ∀ i, i < j → bs[i]? = some (bs.getD i 0) := fun i hi => by
          have hib : i < bs.length := by rw [HLN.out]; exact hi
          simp [List.getD, List.getElem?_eq_getElem hib]
        have hX := HX.out
        rw [HLN.out] at hX
        refine ⟨X, g, GH, fun i => bs.getD i 0, some ⟨b, 0, none⟩, A', c', rfl, ⟨⟨cap, hX⟩, ⟨cur, hg, hcur⟩, HI.out.h, fun i hi => ⟨.slice none 0 0, (HRU.out i _ (hget i hi)).1, Memo.of HI.out.made.mem⟩, fun i i' hi hi' e => ?_, Memo.of HI.out.made.mem, (T3.words HBD.out HBD.out HBD.out), HI.out.made.only, ?_, fun x hx => by simp at hx, fun x hx => by simp at hx⟩⟩
        · have h1 := hget i hi
          have h2 := hget i' hi'
          rw [← e] at h2
          exact HIN.out i i' _ h1 h2
        · rintro q (rfl | h | ⟨i, hi, rfl⟩)
          · exact HI.out.gh
          · exact HI.out.made.new q h
          · exact (HRU.out i _ (hget i hi)).2
end Go.Proofs.Ytgfippbcgneegaa
set_option linter.unusedVariables false
set_option linter.unusedSimpArgs false
namespace Go.Proofs.Ytgfippbcgneegaa
def sumN (f : Nat → Nat) : Nat → Nat
  | 0 => 0
  | k + 1 => sumN f k + f k
theorem sumN_congr {f g : Nat → Nat} : ∀ {k : Nat}, (∀ i, i < k → f i = g i) → sumN f k = sumN g k
  | 0, _ => rfl
  | k + 1, h => by
    show sumN f k + f k = sumN g k + g k
    rw [sumN_congr (k := k) (fun i hi => h i (by omega)), h k (by omega)]
theorem sumN_upd {f g : Nat → Nat} {t : Nat} : ∀ {k : Nat}, t < k → (∀ i, i < k → i ≠ t → g i = f i) → sumN g k + f t = sumN f k + g t
  | 0, h, _ => absurd h (Nat.not_lt_zero _)
  | k + 1, h, ho => by
    show sumN g k + g k + f t = sumN f k + f k + g t
    by_cases e : t = k
    · subst e
      rw [sumN_congr (f := g) (g := f) (k := t) (fun i hi => ho i (by omega) (by omega))]
      omega
    · have := sumN_upd (f := f) (g := g) (t := t) (k := k) (by omega) (fun i hi hn => ho i (by omega) hn)
      have := ho k (by omega) (by omega)
      omega
theorem sumN_le {f g : Nat → Nat} : ∀ {k : Nat}, (∀ i, i < k → f i ≤ g i) → sumN f k ≤ sumN g k
  | 0, _ => Nat.le_refl _
  | k + 1, h => Nat.add_le_add (sumN_le (k := k) fun i hi => h i (by omega)) (h k (by omega))
theorem sumN_tight {f g : Nat → Nat} : ∀ {k : Nat}, (∀ i, i < k → f i ≤ g i) → sumN g k ≤ sumN f k → ∀ i, i < k → f i = g i
  | 0, _, _, _, hi => absurd hi (Nat.not_lt_zero _)
  | k + 1, h, hs, i, hi => by
    have h1 : sumN f k ≤ sumN g k := sumN_le fun j hj => h j (by omega)
    have h2 := h k (by omega)
    have hs' : sumN g k + g k ≤ sumN f k + f k := hs
    by_cases e : i = k
    · subst e; omega
    · exact sumN_tight (k := k) (fun j hj => h j (by omega)) (by omega) i (by omega)
theorem sumN_zero {f : Nat → Nat} : ∀ {k : Nat}, (∀ i, i < k → f i = 0) → sumN f k = 0
  | 0, _ => rfl
  | k + 1, h => by
    show sumN f k + f k = 0
    rw [sumN_zero (k := k) (fun i hi => h i (by omega)), h k (by omega)]
theorem sumN_at {f : Nat → Nat} {i : Nat} : ∀ {k : Nat}, i < k → f i ≤ sumN f k
  | 0, h => absurd h (Nat.not_lt_zero _)
  | k + 1, h => by
    show f i ≤ sumN f k + f k
    by_cases e : i = k
    · subst e; omega
    · have := sumN_at (f := f) (i := i) (k := k) (by omega); omega
theorem sumN_const {c : Nat} : ∀ {k : Nat}, sumN (fun _ => c) k = k * c
  | 0 => by simp [sumN]
  | k + 1 => by
    show sumN (fun _ => c) k + c = (k + 1) * c
    rw [sumN_const, Nat.add_mul, Nat.one_mul]
theorem sumN_add {f g : Nat → Nat} : ∀ {k : Nat}, sumN (fun i => f i + g i) k = sumN f k + sumN g k
  | 0 => rfl
  | k + 1 => by
    show sumN (fun i => f i + g i) k + (f k + g k) = sumN f k + f k + (sumN g k + g k)
    rw [sumN_add]; omega
theorem holes_le (tk : Nat → Nat) (k lo : Nat) : ∀ (n : Nat) (f : Nat → Nat), (∀ i, i < k → f i ≤ 1) → (∀ i, i < k → f i = 1 → lo ≤ tk i ∧ tk i < lo + n) → (∀ i j, i < k → j < k → f i = 1 → f j = 1 → tk i = tk j → i = j) → sumN f k ≤ n := by
  intro n
  induction n with
  | zero =>
    intro f h1 hr _
    refine Nat.le_of_eq (sumN_zero fun i hi => ?_)
    by_cases e : f i = 1
    · have := hr i hi e; omega
    · have := h1 i hi; omega
  | succ n ih =>
    intro f h1 hr hd
    by_cases hg : ∃ i, i < k ∧ f i = 1 ∧ tk i = lo + n
    · obtain ⟨g, hgk, hgf, hgt⟩ := hg
      have hu := sumN_upd (f := f) (g := upd f g 0) (t := g) (k := k) hgk (fun i _ hi => upd_other f 0 hi)
      rw [upd_same] at hu
      have other : ∀ i, i < k → upd f g 0 i = 1 → i ≠ g ∧ f i = 1 := fun i hi hf => by
        by_cases e : i = g
        · rw [e, upd_same] at hf; omega
        · rw [upd_other f 0 e] at hf; exact ⟨e, hf⟩
      have := ih (upd f g 0)
        (fun i hi => by
          by_cases e : i = g
          · rw [e, upd_same]; omega
          · rw [upd_other f 0 e]; exact h1 i hi)
        (fun i hi hf => by
          obtain ⟨e, hf⟩ := other i hi hf
          have := hr i hi hf
          have hne : tk i ≠ tk g := fun h => e (hd i g hi hgk hf hgf h)
          omega)
        (fun i j hi hj hfi hfj h => hd i j hi hj (other i hi hfi).2 (other j hj hfj).2 h)
      omega
    · have := ih f h1 (fun i hi hf => by
        have := hr i hi hf
        have hne : tk i ≠ lo + n := fun h => hg ⟨i, hi, hf, h⟩
        omega) hd
      omega
theorem holes {tk f : Nat → Nat} {k lo n : Nat} (h1 : ∀ i, i < k → f i ≤ 1) (hr : ∀ i, i < k → f i = 1 → lo ≤ tk i ∧ tk i < lo + n) (hd : ∀ i j, i < k → j < k → f i = 1 → f j = 1 → tk i = tk j → i = j) (hs : sumN f k = n) (hn : 0 < n) : ∃ i, i < k ∧ f i = 1 ∧ tk i = lo := by
  by_cases hg : ∃ i, i < k ∧ f i = 1 ∧ tk i = lo
  · exact hg
  · exfalso
    have := holes_le tk k (lo + 1) (n - 1) f h1 (fun i hi hf => by
      have := hr i hi hf
      have hne : tk i ≠ lo := fun h => hg ⟨i, hi, hf, h⟩
      omega) hd
    omega
end Go.Proofs.Ytgfippbcgneegaa
set_option linter.unusedVariables false
set_option linter.unusedSimpArgs false
namespace Go.Proofs.Ytgfippbcgneegaa
inductive Role | out | waits | enters | reads | upgrades | writes
  deriving DecidableEq
def Role.ro : Role → Nat | .out => 0 | .reads => 0 | _ => 1
def Role.wo : Role → Nat | .out => 0 | .upgrades => 2 | _ => 1
def Role.gate : Role → Bool | .enters => true | .upgrades => true | .writes => true | _ => false
theorem ro_out : Role.out.ro = 0 := rfl
theorem wo_out : Role.out.wo = 0 := rfl
theorem ro_waits : Role.waits.ro = 1 := rfl
theorem wo_waits : Role.waits.wo = 1 := rfl
theorem ro_enters : Role.enters.ro = 1 := rfl
theorem wo_enters : Role.enters.wo = 1 := rfl
theorem ro_reads : Role.reads.ro = 0 := rfl
theorem wo_reads : Role.reads.wo = 1 := rfl
theorem ro_upgrades : Role.upgrades.ro = 1 := rfl
theorem wo_upgrades : Role.upgrades.wo = 2 := rfl
theorem ro_writes : Role.writes.ro = 1 := rfl
theorem wo_writes : Role.writes.wo = 1 := rfl
theorem Role.le (x : Role) : x.ro ≤ x.wo := by cases x <;> decide
theorem Role.gate_ro {x : Role} (h : x.gate = true) : x.ro = 1 := by cases x <;> first | rfl | cases h
structure TS where
  role : Nat → Role
  tk : Nat → Nat
  U : Nat
  R : Nat
  W : Nat
structure TInv (k : Nat) (s : TS) : Prop where
  sr : s.R + sumN (fun i => (s.role i).ro) k = s.U
  sw : s.W + sumN (fun i => (s.role i).wo) k = s.U
  lo : ∀ i, i < k → (s.role i).ro = 1 → s.R ≤ s.tk i ∧ s.tk i < s.U
  ne : ∀ i j, i < k → j < k → (s.role i).ro = 1 → (s.role j).ro = 1 → s.tk i = s.tk j → i = j
  gate : ∀ i, i < k → (s.role i).gate = true → s.tk i = s.R
  wr : ∀ i, i < k → s.role i = .writes → s.R = s.W
  up : ∀ i, i < k → s.role i = .upgrades → s.R = s.W + 1
inductive Trans (s : TS) (t : Nat) : Role → Nat → Nat → Nat → Nat → Prop
  | stay : Trans s t (s.role t) (s.tk t) s.U s.R s.W
  | draw : s.role t = .out → Trans s t .waits s.U (s.U + 1) s.R s.W
  | admitR : s.role t = .waits → s.R = s.tk t → Trans s t .enters (s.tk t) s.U s.R s.W
  | admitW : s.role t = .waits → s.W = s.tk t → Trans s t .writes (s.tk t) s.U s.R s.W
  | enter : s.role t = .enters → Trans s t .reads 0 s.U (s.R + 1) s.W
  | down : s.role t = .writes → Trans s t .reads 0 s.U (s.R + 1) s.W
  | leave : s.role t = .reads → Trans s t .out 0 s.U s.R (s.W + 1)
  | tryR : s.role t = .out → s.U = s.R → Trans s t .enters s.U (s.U + 1) s.R s.W
  | tryW : s.role t = .out → s.U = s.W → Trans s t .writes s.U (s.U + 1) s.R s.W
  | tryU : s.role t = .reads → s.U = s.W + 1 → Trans s t .upgrades s.U (s.U + 1) s.R s.W
  | upgraded : s.role t = .upgrades → Trans s t .writes (s.tk t) s.U s.R (s.W + 1)
section
variable {k : Nat} {s : TS}
theorem TInv.order (h : TInv k s) : s.W ≤ s.R ∧ s.R ≤ s.U := by
  have h1 := h.sr
  have h2 := h.sw
  have h3 : sumN (fun i => (s.role i).ro) k ≤ sumN (fun i => (s.role i).wo) k := sumN_le fun i _ => (s.role i).le
  omega
theorem TInv.tight (h : TInv k s) (e : s.R = s.W) (i : Nat) (hi : i < k) : (s.role i).ro = (s.role i).wo :=
  sumN_tight (f := fun i => (s.role i).ro) (g := fun i => (s.role i).wo) (fun i _ => (s.role i).le) (by have := h.sr; have := h.sw; omega) i hi
theorem TInv.tight1 (h : TInv k s) (e : s.R = s.W + 1) {t : Nat} (ht : t < k) (hx : (s.role t).wo = (s.role t).ro + 1) (i : Nat) (hi : i < k) (hn : i ≠ t) : (s.role i).ro = (s.role i).wo := by
  have hu := sumN_upd (f := fun i => (s.role i).ro) (g := upd (fun i => (s.role i).ro) t (s.role t).wo) (t := t) (k := k) ht (fun i _ hi => upd_other _ _ hi)
  rw [upd_same] at hu
  have hs := h.sr
  have hs2 := h.sw
  have := sumN_tight (f := upd (fun i => (s.role i).ro) t (s.role t).wo) (g := fun i => (s.role i).wo) (k := k)
    (fun i _ => by
      by_cases e : i = t
      · rw [e, upd_same]; exact Nat.le_refl _
      · rw [upd_other _ _ e]; exact (s.role i).le)
    (by omega) i hi
  rwa [upd_other _ _ hn] at this
theorem TInv.gates (h : TInv k s) {i j : Nat} (hi : i < k) (hj : j < k) (gi : (s.role i).gate = true) (gj : (s.role j).gate = true) : i = j :=
  h.ne i j hi hj (Role.gate_ro gi) (Role.gate_ro gj) ((h.gate i hi gi).trans (h.gate j hj gj).symm)
theorem TInv.alone (h : TInv k s) {t : Nat} (ht : t < k) (hw : s.role t = .writes) (i : Nat) (hi : i < k) (hn : i ≠ t) : s.role i = .out ∨ s.role i = .waits := by
  have h1 := h.tight (h.wr t ht hw) i hi
  have h2 : (s.role i).gate ≠ true := fun g => hn (h.gates hi ht g (by rw [hw]; rfl))
  cases hr : s.role i <;> rw [hr] at h1 h2 <;> first | exact .inl rfl | exact .inr rfl | (exfalso; revert h1; decide) | (exfalso; exact h2 rfl)
theorem TInv.turn (h : TInv k s) (hall : ∀ i, i < k → s.role i = .out ∨ s.role i = .waits) (hsome : ∃ i, i < k ∧ s.role i = .waits) : s.R = s.W ∧ ∃ i, i < k ∧ s.role i = .waits ∧ s.tk i = s.R := by
  have e : sumN (fun i => (s.role i).ro) k = sumN (fun i => (s.role i).wo) k := sumN_congr fun i hi => by
    rcases hall i hi with e | e <;> simp only [e] <;> rfl
  have h1 := h.sr
  have h2 := h.sw
  refine ⟨by omega, ?_⟩
  obtain ⟨i, hi, hw⟩ := hsome
  have hp := sumN_at (f := fun i => (s.role i).ro) hi
  have hp1 : (s.role i).ro = 1 := by rw [hw]; rfl
  simp only [hp1] at hp
  obtain ⟨j, hj, hf, ht⟩ := holes (tk := s.tk) (f := fun i => (s.role i).ro) (k := k) (lo := s.R) (n := sumN (fun i => (s.role i).ro) k)
    (fun i hi => by rcases hall i hi with e | e <;> simp only [e] <;> decide)
    (fun i hi hf => by have := h.lo i hi hf; omega)
    (fun i j hi hj hfi hfj ht => h.ne i j hi hj hfi hfj ht) rfl (by omega)
  refine ⟨j, hj, ?_, ht⟩
  rcases hall j hj with e | e
  · simp only [e] at hf; cases hf
  · exact e
theorem TInv.move (h : TInv k s) {t : Nat} (ht : t < k) {x : Role} {T U R W : Nat} (hm : Trans s t x T U R W) : TInv k ⟨upd s.role t x, upd s.tk t T, U, R, W⟩ := by
  have hor := h.order
  have hsr := h.sr
  have hsw := h.sw
  have sum_r := sumN_upd (f := fun i => (s.role i).ro) (g := fun i => (upd s.role t x i).ro) (t := t) (k := k) ht (fun i _ hi => by simp only [upd_other _ _ hi])
  have sum_w := sumN_upd (f := fun i => (s.role i).wo) (g := fun i => (upd s.role t x i).wo) (t := t) (k := k) ht (fun i _ hi => by simp only [upd_other _ _ hi])
  simp only [upd_same] at sum_r sum_w
  -- the others keep what they have
  have rest : (∀ i, i < k → i ≠ t → (s.role i).ro = 1 → R ≤ s.tk i ∧ s.tk i < U) → (∀ i, i < k → i ≠ t → (s.role i).gate = true → s.tk i = R) → (∀ i, i < k → i ≠ t → s.role i = .writes → R = W) → (∀ i, i < k → i ≠ t → s.role i = .upgrades → R = W + 1) →
      (x.ro = 1 → R ≤ T ∧ T < U) → (x.ro = 1 → ∀ i, i < k → i ≠ t → (s.role i).ro = 1 → s.tk i ≠ T) → (x.gate = true → T = R) → (x = .writes → R = W) → (x = .upgrades → R = W + 1) →
      R + sumN (fun i => (upd s.role t x i).ro) k = U → W + sumN (fun i => (upd s.role t x i).wo) k = U → TInv k ⟨upd s.role t x, upd s.tk t T, U, R, W⟩ := by
    intro a1 a2 a3 a4 b1 b2 b3 b4 b5 c1 c2
    refine ⟨c1, c2, fun i hi hf => ?_, fun i j hi hj hfi hfj e => ?_, fun i hi hf => ?_, fun i hi hf => ?_, fun i hi hf => ?_⟩
    · by_cases e : i = t
      · subst e; simp only [upd_same] at hf ⊢; exact b1 hf
      · simp only [upd_other _ _ e] at hf ⊢; exact a1 i hi e hf
    · by_cases ei : i = t
      · by_cases ej : j = t
        · rw [ei, ej]
        · subst ei
          simp only [upd_same, upd_other _ _ ej] at hfi hfj e
          exact absurd e.symm (b2 hfi j hj ej hfj)
      · by_cases ej : j = t
        · subst ej
          simp only [upd_same, upd_other _ _ ei] at hfi hfj e
          exact absurd e (b2 hfj i hi ei hfi)
        · simp only [upd_other _ _ ei, upd_other _ _ ej] at hfi hfj e
          exact h.ne i j hi hj hfi hfj e
    · by_cases e : i = t
      · subst e; simp only [upd_same] at hf ⊢; exact b3 hf
      · simp only [upd_other _ _ e] at hf ⊢; exact a2 i hi e hf
    · by_cases e : i = t
      · subst e; simp only [upd_same] at hf; exact b4 hf
      · simp only [upd_other _ _ e] at hf; exact a3 i hi e hf
    · by_cases e : i = t
      · subst e; simp only [upd_same] at hf; exact b5 hf
      · simp only [upd_other _ _ e] at hf; exact a4 i hi e hf
  have lo := fun i hi (_ : i ≠ t) => h.lo i hi
  have ga := fun i hi (_ : i ≠ t) => h.gate i hi
  have wr := fun i hi (_ : i ≠ t) => h.wr i hi
  have up := fun i hi (_ : i ≠ t) => h.up i hi
  have gw : ∀ i, s.role i = .writes → (s.role i).gate = true := fun i e => by rw [e]; rfl
  have gu : ∀ i, s.role i = .upgrades → (s.role i).gate = true := fun i e => by rw [e]; rfl
  cases hm with
  | stay =>
    refine rest lo ga wr up (h.lo t ht) (fun hx i hi hn hf e => hn (h.ne i t hi ht hf hx e)) (h.gate t ht) (h.wr t ht) (h.up t ht) (by omega) (by omega)
  | draw hr =>
    simp only [hr, ro_out, wo_out, ro_waits, wo_waits, ro_enters, wo_enters, ro_reads, wo_reads, ro_upgrades, wo_upgrades, ro_writes, wo_writes] at sum_r sum_w
    exact rest (fun i hi hn hf => by have := h.lo i hi hf; omega) ga wr up (fun _ => by omega) (fun _ i hi hn hf => by have := h.lo i hi hf; omega) (fun e => by cases e) (fun e => by cases e) (fun e => by cases e) (by omega) (by omega)
  | admitR hr he =>
    simp only [hr, ro_out, wo_out, ro_waits, wo_waits, ro_enters, wo_enters, ro_reads, wo_reads, ro_upgrades, wo_upgrades, ro_writes, wo_writes] at sum_r sum_w
    have hx : (s.role t).ro = 1 := by rw [hr]; rfl
    exact rest lo ga wr up (fun _ => h.lo t ht hx) (fun _ i hi hn hf e => hn (h.ne i t hi ht hf hx e)) (fun _ => he.symm) (fun e => by cases e) (fun e => by cases e) (by omega) (by omega)
  | admitW hr he =>
    simp only [hr, ro_out, wo_out, ro_waits, wo_waits, ro_enters, wo_enters, ro_reads, wo_reads, ro_upgrades, wo_upgrades, ro_writes, wo_writes] at sum_r sum_w
    have hx : (s.role t).ro = 1 := by rw [hr]; rfl
    have hl := h.lo t ht hx
    exact rest lo ga wr up (fun _ => hl) (fun _ i hi hn hf e => hn (h.ne i t hi ht hf hx e)) (fun _ => by omega) (fun _ => by omega) (fun e => by cases e) (by omega) (by omega)
  | enter hr =>
    simp only [hr, ro_out, wo_out, ro_waits, wo_waits, ro_enters, wo_enters, ro_reads, wo_reads, ro_upgrades, wo_upgrades, ro_writes, wo_writes] at sum_r sum_w
    have hg : (s.role t).gate = true := by rw [hr]; rfl
    have hT := h.gate t ht hg
    have no : ∀ i, i < k → i ≠ t → (s.role i).gate ≠ true := fun i hi hn g => hn (h.gates hi ht g hg)
    exact rest (fun i hi hn hf => by
        have := h.lo i hi hf
        have : s.tk i ≠ s.tk t := fun e => hn (h.ne i t hi ht hf (Role.gate_ro hg) e)
        omega) (fun i hi hn g => absurd g (no i hi hn)) (fun i hi hn e => absurd (gw i e) (no i hi hn)) (fun i hi hn e => absurd (gu i e) (no i hi hn)) (fun e => by cases e) (fun e => by cases e) (fun e => by cases e) (fun e => by cases e) (fun e => by cases e) (by omega) (by omega)
  | down hr =>
    simp only [hr, ro_out, wo_out, ro_waits, wo_waits, ro_enters, wo_enters, ro_reads, wo_reads, ro_upgrades, wo_upgrades, ro_writes, wo_writes] at sum_r sum_w
    have hg : (s.role t).gate = true := by rw [hr]; rfl
    have hT := h.gate t ht hg
    have no : ∀ i, i < k → i ≠ t → (s.role i).gate ≠ true := fun i hi hn g => hn (h.gates hi ht g hg)
    exact rest (fun i hi hn hf => by
        have := h.lo i hi hf
        have : s.tk i ≠ s.tk t := fun e => hn (h.ne i t hi ht hf (Role.gate_ro hg) e)
        omega) (fun i hi hn g => absurd g (no i hi hn)) (fun i hi hn e => absurd (gw i e) (no i hi hn)) (fun i hi hn e => absurd (gu i e) (no i hi hn)) (fun e => by cases e) (fun e => by cases e) (fun e => by cases e) (fun e => by cases e) (fun e => by cases e) (by omega) (by omega)
  | leave hr =>
    simp only [hr, ro_out, wo_out, ro_waits, wo_waits, ro_enters, wo_enters, ro_reads, wo_reads, ro_upgrades, wo_upgrades, ro_writes, wo_writes] at sum_r sum_w
    exact rest lo ga
      (fun i hi hn e => by
        have := h.tight (h.wr i hi e) t ht
        rw [hr] at this; cases this)
      (fun i hi hn e => by
        have := h.tight1 (h.up i hi e) hi (by rw [e]; rfl) t ht (fun e => hn e.symm)
        rw [hr] at this; cases this)
      (fun e => by cases e) (fun e => by cases e) (fun e => by cases e) (fun e => by cases e) (fun e => by cases e) (by omega) (by omega)
  | tryR hr he =>
    simp only [hr, ro_out, wo_out, ro_waits, wo_waits, ro_enters, wo_enters, ro_reads, wo_reads, ro_upgrades, wo_upgrades, ro_writes, wo_writes] at sum_r sum_w
    have no : ∀ i, i < k → (s.role i).ro ≠ 1 := fun i hi hf => by have := h.lo i hi hf; omega
    exact rest (fun i hi hn hf => absurd hf (no i hi)) (fun i hi hn g => absurd (Role.gate_ro g) (no i hi)) wr up (fun _ => by omega) (fun _ i hi hn hf => absurd hf (no i hi)) (fun _ => he) (fun e => by cases e) (fun e => by cases e) (by omega) (by omega)
  | tryW hr he =>
    simp only [hr, ro_out, wo_out, ro_waits, wo_waits, ro_enters, wo_enters, ro_reads, wo_reads, ro_upgrades, wo_upgrades, ro_writes, wo_writes] at sum_r sum_w
    have no : ∀ i, i < k → (s.role i).ro ≠ 1 := fun i hi hf => by have := h.lo i hi hf; omega
    exact rest (fun i hi hn hf => absurd hf (no i hi)) (fun i hi hn g => absurd (Role.gate_ro g) (no i hi)) wr up (fun _ => by omega) (fun _ i hi hn hf => absurd hf (no i hi)) (fun _ => by omega) (fun _ => by omega) (fun e => by cases e) (by omega) (by omega)
  | tryU hr he =>
    simp only [hr, ro_out, wo_out, ro_waits, wo_waits, ro_enters, wo_enters, ro_reads, wo_reads, ro_upgrades, wo_upgrades, ro_writes, wo_writes] at sum_r sum_w
    have hone : sumN (fun i => (s.role i).wo) k = 1 := by omega
    have hz : ∀ i, i < k → i ≠ t → (s.role i).wo = 0 := fun i hi hn => by
      have hu := sumN_upd (f := fun i => (s.role i).wo) (g := upd (fun i => (s.role i).wo) t 0) (t := t) (k := k) ht (fun i _ hi => upd_other _ _ hi)
      rw [upd_same] at hu
      simp only [hr, wo_reads] at hu
      have := sumN_at (f := upd (fun i => (s.role i).wo) t 0) hi
      rw [upd_other _ _ hn] at this
      omega
    have hR : s.R = s.U := by
      have : sumN (fun i => (s.role i).ro) k = 0 := sumN_zero fun i hi => by
        by_cases e : i = t
        · rw [e, hr]; rfl
        · have := (s.role i).le; have := hz i hi e; omega
      omega
    have no : ∀ i, i < k → i ≠ t → (s.role i).ro ≠ 1 := fun i hi hn hf => by have := (s.role i).le; have := hz i hi hn; omega
    exact rest (fun i hi hn hf => absurd hf (no i hi hn)) (fun i hi hn g => absurd (Role.gate_ro g) (no i hi hn)) wr up (fun _ => by omega) (fun _ i hi hn hf => absurd hf (no i hi hn)) (fun _ => hR.symm) (fun e => by cases e) (fun _ => by omega) (by omega) (by omega)
  | upgraded hr =>
    simp only [hr, ro_out, wo_out, ro_waits, wo_waits, ro_enters, wo_enters, ro_reads, wo_reads, ro_upgrades, wo_upgrades, ro_writes, wo_writes] at sum_r sum_w
    have hg : (s.role t).gate = true := by rw [hr]; rfl
    have hT := h.gate t ht hg
    have hU := h.up t ht hr
    have hl := h.lo t ht (Role.gate_ro hg)
    have no : ∀ i, i < k → i ≠ t → (s.role i).gate ≠ true := fun i hi hn g => hn (h.gates hi ht g hg)
    exact rest lo ga (fun i hi hn e => absurd (gw i e) (no i hi hn)) (fun i hi hn e => absurd (gu i e) (no i hi hn)) (fun _ => hl) (fun _ i hi hn hf e => hn (h.ne i t hi ht hf (Role.gate_ro hg) e)) (fun _ => hT) (fun _ => hU) (fun e => by cases e) (by omega) (by omega)
end
end Go.Proofs.Ytgfippbcgneegaa
set_option linter.unusedVariables false
set_option linter.unusedSimpArgs false
namespace Go.Proofs.Ytgfippbcgneegaa
def roleOf (h : Int) (r : LS) : Role :=
  if r.op = 0 then (if h = 1 then .reads else if h = 2 then .writes else .out)
  else if r.op = 1 then (if r.line = 0 then .out else if r.line = 1 then (if r.s = 4 then .enters else .waits) else if r.k.on then .reads else .enters)
  else if r.op = 2 then (if r.k.on then .out else .reads)
  else if r.op = 3 then (if r.line = 0 then .out else if r.s = 4 then .writes else .waits)
  else if r.op = 4 then (if r.line = 0 then .writes else if r.ret = 0 then .reads else .out)
  else if r.op = 5 then (if r.line = 3 then (if r.k.on then .reads else .enters) else .out)
  else if r.op = 7 then (if r.line = 3 then .upgrades else .reads)
  else if r.op = 8 then (if r.k.on then .reads else .writes)
  else .out
def lineOK (h : Int) (r : LS) : Prop :=
  (r.op = 0 ∧ (h = 0 ∨ h = 1 ∨ h = 2)) ∨ (r.op = 1 ∧ h = 0 ∧ (r.line = 0 ∨ r.line = 1 ∨ r.line = 2)) ∨ (r.op = 2 ∧ h = 0 ∧ r.line = 0) ∨ (r.op = 3 ∧ h = 0 ∧ (r.line = 0 ∨ r.line = 1)) ∨ (r.op = 4 ∧ h = 0 ∧ (r.line = 0 ∨ r.line = 1))
  ∨ (r.op = 5 ∧ h = 0 ∧ (r.line = 0 ∨ r.line = 1 ∨ r.line = 2 ∨ r.line = 3)) ∨ (r.op = 6 ∧ h = 0 ∧ (r.line = 0 ∨ r.line = 1 ∨ r.line = 2)) ∨ (r.op = 7 ∧ h = 1 ∧ (r.line = 0 ∨ r.line = 1 ∨ r.line = 2 ∨ r.line = 3)) ∨ (r.op = 8 ∧ h = 1 ∧ r.line = 0)
def wakeOK (r : LS) : Prop := r.k.on = true → (r.op = 1 ∧ r.line = 2 ∧ r.ret = 2) ∨ (r.op = 2 ∧ r.ret = 2) ∨ (r.op = 4 ∧ r.line = 1) ∨ (r.op = 5 ∧ r.line = 3 ∧ r.ret = 2) ∨ (r.op = 8 ∧ r.ret = 2)
theorem role_writes {r : LS} (h : lineOK 2 r) : roleOf 2 r = .writes := by
  unfold lineOK at h
  rcases h with ⟨h0, _⟩ | h | h | h | h | h | h | h | h
  · unfold roleOf; rw [if_pos h0]; rfl
  all_goals (exfalso; have := h.2.1; revert this; decide)
theorem role_holds {r : LS} (h : lineOK 1 r) : roleOf 1 r ≠ .out ∧ roleOf 1 r ≠ .waits := by
  unfold lineOK at h
  rcases h with ⟨h0, _⟩ | h | h | h | h | h | h | ⟨h0, _, _⟩ | ⟨h0, _, _⟩
  · unfold roleOf; rw [if_pos h0]; exact ⟨by decide, by decide⟩
  all_goals first
    | (exfalso; have := h.2.1; revert this; decide)
    | (unfold roleOf; simp only [h0]; (repeat' split) <;> simp_all)
theorem holds_alone {k : Nat} {m : MV} {s : TS} (hi : TInv k s) (hr : ∀ i, i < k → s.role i = roleOf (m.hold i) (m.rs i)) (hl : ∀ i, i < k → lineOK (m.hold i) (m.rs i)) {t : Nat} (ht : t < k) (h2 : m.hold t = 2) (i : Nat) (hik : i < k) (hn : i ≠ t) : m.hold i = 0 := by
  have hw : s.role t = .writes := by
    have := hl t ht
    rw [h2] at this
    rw [hr t ht, h2, role_writes this]
  have ha := hi.alone ht hw i hik hn
  rw [hr i hik] at ha
  have hli := hl i hik
  have h3 : m.hold i = 0 ∨ m.hold i = 1 ∨ m.hold i = 2 := by
    unfold lineOK at hli; omega
  rcases h3 with e | e | e
  · exact e
  · rw [e] at ha hli
    have := role_holds hli
    rcases ha with a | a
    · exact absurd a this.1
    · exact absurd a this.2
  · rw [e] at ha hli
    rw [role_writes hli] at ha
    rcases ha with a | a <;> cases a
end Go.Proofs.Ytgfippbcgneegaa
set_option linter.unusedVariables false
set_option linter.unusedSimpArgs false
namespace Go.Proofs.Ytgfippbcgneegaa
section
variable {xs : List Int} {c d x y n mode i s : Int} {q : Int → Bool}
theorem own_add (hc : there xs c = true) : wordAt (doNew xs 3 c x 0) c = (x + wordAt xs c) % 4294967296 := by
  rw [doNew_st _ _ _ _ _ rfl, word_st, if_pos hc]; rfl
theorem own_add_far (h : c ≠ d) : wordAt (doNew xs 3 c x 0) d = wordAt xs d := by
  rw [doNew_st _ _ _ _ _ rfl, word_far _ h]
theorem own_load : doNew xs 1 c 0 0 = xs := by
  rw [doNew_st _ _ _ _ _ rfl]; exact st_word xs c
theorem own_cas (hc : there xs c = true) : wordAt (doNew xs 5 c x y) c = if wordAt xs c = x then y else wordAt xs c := by
  rw [doNew_st _ _ _ _ _ rfl, word_st, if_pos hc]; rfl
theorem own_cas_far (h : c ≠ d) : wordAt (doNew xs 5 c x y) d = wordAt xs d := by
  rw [doNew_st _ _ _ _ _ rfl, word_far _ h]
theorem own_wait (h1 : wc n i ≠ d) (h2 : pc n i ≠ d) : wordAt (stepI xs n mode i s c q).xs d = wordAt xs d := by
  unfold stepI
  (repeat' split) <;> first | rfl | exact word_far _ h1 | exact word_far _ h2
theorem own_wake {on hit : Bool} (h2 : pc n i ≠ d) : wordAt (wakeI xs n on c i hit).xs d = wordAt xs d := by
  unfold wakeI giveI lookI restI
  (repeat' split) <;> first | rfl | exact word_far _ h2
end
end Go.Proofs.Ytgfippbcgneegaa
