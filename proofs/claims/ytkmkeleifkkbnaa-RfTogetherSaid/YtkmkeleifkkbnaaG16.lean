import Derived.Deep.OwnRows
import Derived.Test.YtkmkeleifkkbnaaG9
import Derived.Test.YtkmkeleifkkbnaaG15
import Derived.Test.YtkmkeleifkkbnaaG14
set_option linter.unusedVariables false
set_option linter.unusedSimpArgs false
namespace Go.Proofs.Ytkmkeleifkkbnaa
open Go.RowKit
theorem many_bd (m : MV) (what : Int) : ∀ k, manyI m what k ≤ k
  | 0 => Nat.le_refl _
  | k + 1 => by
    have := many_bd m what k
    unfold manyI
    split <;> omega
theorem many_any (L : List (Nat × TypeId × Array Value)) (w0 : World) (X GL GH : Nat) (B : Nat → Nat) (p A : Option Addr) (cp k : Nat) (m : MV) (what : Int) (w : World) (h : MatchP L w0 X GL GH B p A cp k m w) (hk : k ≤ 1000) :
    Calls Try.prog 14 #[Value.pointer (some ⟨X, 0, none⟩), .int .i64 what] w fun e w' => e = .returned (.int .i64 (manyI m what k)) ∧ w = w' := by
  obtain ⟨cl, hx0⟩ := h.x
  obtain ⟨csh, hh0, hh1⟩ := h.h
  have x1 : w.cell? ⟨X, 1, none⟩ = some (.slice (some ⟨GH, 0, none⟩) k k) := hx0.cell_ (i := 1) rfl
  have HH := Lib.hid (show ∀ i, i < k → w.cell? ⟨GH, i, none⟩ = some (.int .i64 (m.hold i)) from fun i hi => hh0.cell_ (hh1 i hi))
  clear h hx0 hh0 hh1
  go_enter Try.func14, Try.ntmps14
  go_wp2_with fail
  go_loop [5, 6] (fun nv iv => ∃ i : Nat, i ≤ k ∧ iv = .int .i64 i ∧ nv = .int .i64 (manyI m what i)) (fun _ iv => k - (intOf iv).toNat)
  case atStart => exact ⟨0, Nat.zero_le _, rfl, rfl⟩
  case round =>
    obtain ⟨i, hi, rfl, rfl⟩ := hrel
    have b1 := many_bd m what i
    by_cases hlt : i < k
    · have gh := HH.out i hlt
      have HS := Lib.hid (show manyI m what (i + 1) = if m.hold i = what then manyI m what i + 1 else manyI m what i from rfl)
      by_cases he : m.hold i = what
      · have he' : (m.hold i == what) = true := beq_iff_eq.2 he
        have HE := Lib.hid (HS.out.trans (if_pos he))
        clear he
        generalize manyI m what i = c at *
        generalize m.hold i = hv at *
        go_wp2
        go_round
        case rel => exact ⟨i + 1, by omega, by go_num, by rw [HE.out]; first | done | go_num⟩
        case measure => simp [intOf]; omega
      · have he' : (m.hold i == what) = false := beq_eq_false_iff_ne.2 he
        have HE := Lib.hid (HS.out.trans (if_neg he))
        clear he
        generalize manyI m what i = c at *
        generalize m.hold i = hv at *
        go_wp2
        go_round
        case rel => exact ⟨i + 1, by omega, by go_num, by rw [HE.out]; first | done | go_num⟩
        case measure => simp [intOf]; omega
    · obtain rfl : i = k := by omega
      go_wp2
      go_ret
      exact ⟨rfl, rfl⟩
theorem infoI : (Try.prog.info? 3).map (fun i => (i.zero, i.size, i.bytes)) = some (some (.int .i64 0), 1, 8) := by kernel_rfl
structure BegunI (w0 : World) (X GH b : Nat) (A : Option Addr) (cp k : Nat) (mode : Int) (xs : List Int) (j : Nat) (W : World) : Prop where
  x : ∃ lv bs, Row W X 49 #[lv, .slice (some ⟨GH, 0, none⟩) k k] ∧ OwnP w0.heap.size W lv bs ∧ bs.length = j ∧ (∀ (i : Nat) (b' : Nat), bs[i]? = some b' → Row W b' 61 (newCells (some ⟨b, 0, none⟩) k mode i 0) ∧ w0.heap.size ≤ b') ∧ (∀ (i i' b' : Nat), bs[i]? = some b' → bs[i']? = some b' → i = i')
  h : ∃ cs, Row W GH 3 cs ∧ ∀ i, i < k → cs[i]? = some (.int .i64 0)
  made : Made w0 b A cp xs W
  gh : w0.heap.size ≤ GH
  xb : w0.heap.size ≤ X
def BegunP (k : Nat) (m : MV) (w : World) (e : Ending) (w' : World) : Prop := ∃ X GL GH B p A cp, e = .returned (Value.pointer (some ⟨X, 0, none⟩)) ∧ MatchP [] w X GL GH B p A cp k m w'
set_option maxRecDepth 100000 in
set_option maxHeartbeats 2000000 in
theorem begun_any (k : Nat) (mode b0 : Int) (w : World) (hk : 1 ≤ k ∧ k ≤ 64) (hb : 0 ≤ b0 ∧ b0 < 4294967296) :
    Calls Try.prog 12 #[.int .i64 k, .int .i64 mode, .int .u32 b0] w (BegunP k ⟨fun i => newR k mode i 0 (rfXs k), fun _ => 0, (rfXs k)⟩ w) := by
  have HBD := Lib.hid hb
  have HK := Lib.hid hk
  have hk1 : (1 : Int) ≤ k := by omega
  have hk2 : (k : Int) ≤ 64 := by omega
  have hk3 : k ≤ 64 := by omega
  clear hb hk
  have hmk := fun W => run_make_row' (P := Try.prog) 23 3 (.int .i64 0) 8 Try.underlying23 infoI rfl .i64 .i64 k (by omega) (by omega) W
  go_enter Try.func12, Try.ntmps12
  go_wp2_with fail
  refine (first_rf k b0 _ HK.out HBD.out).mono ?_
  rintro e w1 ⟨gf, rfl, hg, hH, hO⟩
  have HH := Lib.hid hH
  have HO := Lib.hid hO
  clear hg hH hO
  go_wp2_with fail
  refine (from_ok _ _ _ _ _ (by omega) HH.out).mono ?_
  rintro e w2 ⟨b, A', c', rfl, hb, hA, hM, hO⟩
  have HM : Hid (Made w b A' c' _ w2) := Lib.hid ⟨hM, fun j hj => Nat.le_trans HO.out.size (hA j hj), HO.out.trans hO⟩
  clear hb hA hM hO HO HH
  have e1 := (Only.refl Nil w2).alloc (.cells (madeCells #[.int .i64 0] k) 3)
  have e2 := e1.alloc (.cells #[.slice none 0 0, .slice (some ⟨w2.heap.size, 0, none⟩) k k] 49)
  have HI0 : Hid (BegunI w (w2.heap.size + 1) w2.heap.size b A' c' k mode (rfXs k) 0 ((w2.alloc (.cells (madeCells #[.int .i64 0] k) 3)).alloc (.cells #[.slice none 0 0, .slice (some ⟨w2.heap.size, 0, none⟩) k k] 49))) :=
    Lib.hid ⟨⟨_, [], Row.new2 w2 _ _ _, ownP_nil _ _, rfl, fun i b' h => by simp at h, fun i i' b' h => by simp at h⟩, ⟨_, (Row.new w2 _ _).alloc _, fun i hi => made_zero k i hi⟩, ⟨HM.out.mem.only e2 id (fun _ _ => id), HM.out.new, HM.out.only.trans e2⟩, HM.out.only.size, Nat.le_trans HM.out.only.size (Nat.le_succ _)⟩
  clear e1 e2 HM
  go_upto_region 7 with (fail)
  generalize (w2.alloc (.cells (madeCells #[.int .i64 0] k) 3)).alloc (.cells #[.slice none 0 0, .slice (some ⟨w2.heap.size, 0, none⟩) k k] 49) = w3 at *
  generalize w2.heap.size + 1 = X at *
  generalize w2.heap.size = GH at *
  clear hmk
  go_loopw [12] (fun iv wr => ∃ j : Nat, j ≤ k ∧ iv = .int .i64 j ∧ BegunI w X GH b A' c' k mode (rfXs k) j wr) (fun iv _ => k - (intOf iv).toNat)
  case atStart => exact ⟨0, Nat.zero_le _, rfl, HI0.out⟩
  case round =>
    obtain ⟨j, hj, rfl, hI⟩ := hrel
    clear HI0
    obtain ⟨lv, bs, hx, hown, hlen, hruns, hinj⟩ := hI.x
    have HI := Lib.hid hI
    have HX := Lib.hid hx
    have HOW := Lib.hid hown
    have HLN := Lib.hid hlen
    have HRU := Lib.hid hruns
    have HIN := Lib.hid hinj
    clear hI hlen hruns hinj
    by_cases hlt : j < k
    · obtain ⟨A9, n9, c9, rfl⟩ := ownP_form hown
      have cx : wr.cell? ⟨X, 0, none⟩ = some (.slice A9 n9 c9) := hx.cell_ (i := 0) rfl
      clear hx hown
      have e1 := (Only.refl Nil wr).alloc (.cells (newCells (some ⟨b, 0, none⟩) k mode j 0) 61)
      have e2 := e1.alloc (.cells #[.pointer (some ⟨wr.heap.size, 0, none⟩)] 62)
      have HE2 := Lib.hid e2
      have HRN := Lib.hid ((Row.new wr 61 (newCells (some ⟨b, 0, none⟩) k mode j 0)).alloc (.cells #[.pointer (some ⟨wr.heap.size, 0, none⟩)] 62))
      have HPN := Lib.hid (Row.new2 wr (.cells (newCells (some ⟨b, 0, none⟩) k mode j 0) 61) 62 #[.pointer (some ⟨wr.heap.size, 0, none⟩)])
      have HBASE := Lib.hid (Nat.le_trans HI.out.made.only.size e2.size)
      clear e1 e2
      unfold newCells at HE2 HRN HPN HBASE
      go_wp2_with (at_builtin; refine wp_appP rfl (.tmp 43) (.tmp 51) rfl w.heap.size _ bs (by rfl) (own_only HOW.out HE2.out (fun _ _ => id)) (wr.heap.size + 1) wr.heap.size (by rfl) HPN.out (by have := HLN.out; omega) HBASE.out ?_)
      intro v' w5 hown5 hO5
      obtain ⟨A8, n8, c8, rfl⟩ := ownP_form hown5
      clear cx
      have HX5 := Lib.hid ((HX.out.only HE2.out id).only hO5 (fun e => by
        obtain ⟨cur, hc⟩ := ownP_tag HOW.out e
        exact row_ne HX.out hc (by decide) rfl))
      have HFAR := Lib.hid (show ∀ (g : Nat) (t : TypeId) (cs : Array Value), Row wr g t cs → t ≠ 62 → Row w5 g t cs from fun g t cs hr ht => (hr.only HE2.out id).only hO5 (fun e => by
        obtain ⟨cur, hc⟩ := ownP_tag HOW.out e
        exact row_ne hr hc ht rfl))
      have HRN5 := Lib.hid (HRN.out.only hO5 (fun e => by
        have := (World.ownsRow.lt HOW.out _ e).2
        omega))
      have HM5 : Hid (Made w b A' c' (rfXs k) w5) := Lib.hid ⟨(HI.out.made.mem.only HE2.out id (fun _ _ => id)).only hO5 (fun e => by
          obtain ⟨cur, hc⟩ := ownP_tag HOW.out e
          exact row_ne HI.out.made.mem.hdr hc (by decide) rfl) (fun i hi e => by
          obtain ⟨cur, hc⟩ := ownP_tag HOW.out e
          exact memo_not (Memo.of HI.out.made.mem) hc (by decide) (by decide) (.inr hi)), HI.out.made.new, (HI.out.made.only.trans HE2.out).step hO5 (fun i hi e => by
          have := (World.ownsRow.lt HOW.out _ e).1
          omega)⟩
      have HOW5 := Lib.hid hown5
      have HWS := Lib.hid (show wr.heap.size < w5.heap.size from by
        have h1 := hO5.size
        have h2 : wr.heap.size < ((wr.alloc (.cells #[.pointer (some ⟨b, 0, none⟩), .int .i64 k, .int .i64 mode, .int .i64 j, .int .i64 0, .int .i64 0, .int .u32 0, .int .u32 0, .int .i64 0, .bool false, .int .i64 0, .int .i64 0, .bool false, .int .i64 0, .int .i64 0, .int .i64 0, .int .u32 0, .int .u32 0, .int .u32 0, .slice none 0 0] 61)).alloc (.cells #[.pointer (some ⟨wr.heap.size, 0, none⟩)] 62)).heap.size := by simp; omega
        omega)
      have y0 : w5.cell? ⟨X, 0, none⟩ = some (.slice A9 n9 c9) := HX5.out.cell_ (i := 0) rfl
      have yf : w5.frozen? ⟨X, 0, none⟩ = false := HX5.out.frozen 0
      clear hown5 hO5
      go_wp2
      clear y0 yf
      have HO6 := Lib.hid ((Only.refl (· = X) w5).setCell (p := ⟨X, 0, none⟩) (.inr rfl) (.slice A8 n8 c8))
      have hI' : BegunI w X GH b A' c' k mode (rfXs k) (j + 1) (w5.setCell ⟨X, 0, none⟩ (.slice A8 n8 c8)) := by
        refine ⟨⟨.slice A8 n8 c8, bs ++ [wr.heap.size], HX5.out.set 0 (.slice A8 n8 c8), own_only HOW5.out HO6.out (fun i hi e => ?_), by rw [List.length_append, HLN.out]; rfl, fun i b' hb' => ?_, fun i i' b' h1 h2 => ?_⟩, ?_, ⟨HM5.out.mem.only HO6.out (fun e => row_ne HM5.out.mem.hdr HX5.out (by decide) e) (fun i hi e => memo_not (Memo.of HM5.out.mem) HX5.out (by decide) (by decide) (by subst e; exact .inr hi)), HM5.out.new, HM5.out.only.setCell (.inl HI.out.xb) _⟩, HI.out.gh, HI.out.xb⟩
        · obtain ⟨cur, hc⟩ := ownP_tag HOW5.out hi
          exact row_ne hc HX5.out (by decide) e
        · by_cases hi : i < bs.length
          · rw [List.getElem?_append_left hi] at hb'
            obtain ⟨hr, hb0⟩ := HRU.out i b' hb'
            exact ⟨(HFAR.out _ _ _ hr (by decide)).only HO6.out (fun e => row_ne (HFAR.out _ _ _ hr (by decide)) HX5.out (by decide) e), hb0⟩
          · rw [List.getElem?_append_right (by omega)] at hb'
            have hij : i = bs.length := by
              by_cases e : i = bs.length
              · exact e
              · rw [List.getElem?_eq_none (by simp; omega)] at hb'
                cases hb'
            subst hij
            simp only [Nat.sub_self, List.getElem?_cons_zero, Option.some.injEq] at hb'
            subst hb'
            rw [HLN.out]
            exact ⟨HRN5.out.only HO6.out (fun e => row_ne HRN5.out HX5.out (by decide) e), HI.out.made.only.size⟩
        · have hlt1 : ∀ (q : Nat), bs[q]? = some b' → b' < wr.heap.size := fun q hq => (HRU.out q b' hq).1.lt
          by_cases hi : i < bs.length
          · by_cases hi' : i' < bs.length
            · rw [List.getElem?_append_left hi] at h1
              rw [List.getElem?_append_left hi'] at h2
              exact HIN.out i i' b' h1 h2
            · rw [List.getElem?_append_left hi] at h1
              have := hlt1 i h1
              rw [List.getElem?_append_right (by omega)] at h2
              have := List.mem_of_getElem? h2
              simp only [List.mem_cons, List.not_mem_nil, or_false] at this
              omega
          · by_cases hi' : i' < bs.length
            · rw [List.getElem?_append_left hi'] at h2
              have := hlt1 i' h2
              rw [List.getElem?_append_right (by omega)] at h1
              have := List.mem_of_getElem? h1
              simp only [List.mem_cons, List.not_mem_nil, or_false] at this
              omega
            · have l1 := (List.getElem?_eq_some_iff.1 h1).1
              have l2 := (List.getElem?_eq_some_iff.1 h2).1
              rw [List.length_append] at l1 l2
              simp only [List.length_cons, List.length_nil] at l1 l2
              omega
        · obtain ⟨cs, hc, hz⟩ := HI.out.h
          exact ⟨cs, (HFAR.out _ _ _ hc (by decide)).only HO6.out (fun e => row_ne (HFAR.out _ _ _ hc (by decide)) HX5.out (by decide) e), hz⟩
      go_roundw
      case rel => exact ⟨j + 1, by omega, by go_num, hI'⟩
      case measure => simp [intOf]; omega
    · obtain rfl : j = k := by omega
      clear hx hown
      go_wp2
      go_ret
      rcases HOW.out.2 with ⟨_, hn⟩ | ⟨g, cap, cur, rfl, hb, hg, hc, hm, hsz, ht⟩
      · have := HLN.out; have := HK.out; omega
      · have hcur : ∀ i, i < j → cur[i]? = some (.pointer (some ⟨bs.getD i 0, 0, none⟩)) := fun i hi => by
          have e1 : (cur.toList.take (bs.length * 1))[i]? = (bs.map fun b => Value.pointer (some ⟨b, 0, none⟩))[i]? := by rw [ht]
          have hib : i < bs.length := by rw [HLN.out]; exact hi
          rw [List.getElem?_take, if_pos (by omega), List.getElem?_map, List.getElem?_eq_getElem hib] at e1
          simp only [Option.map_some, Array.getElem?_toList] at e1
          rw [e1]
          simp [List.getD, List.getElem?_eq_getElem hib]
        have hget : ∀ i, i < j → bs[i]? = some (bs.getD i 0) := fun i hi => by
          have hib : i < bs.length := by rw [HLN.out]; exact hi
          simp [List.getD, List.getElem?_eq_getElem hib]
        have hX := HX.out
        rw [HLN.out] at hX
        refine ⟨X, g, GH, fun i => bs.getD i 0, some ⟨b, 0, none⟩, A', c', rfl, ⟨⟨cap, hX⟩, ⟨cur, hg, hcur⟩, HI.out.h, fun i hi => ⟨.slice none 0 0, (HRU.out i _ (hget i hi)).1, Memo.of HI.out.made.mem⟩, fun i i' hi hi' e => ?_, Memo.of HI.out.made.mem, (rf_words _), HI.out.made.only, ?_, fun x hx => by simp at hx, fun x hx => by simp at hx, fun i hi => ⟨Int.le_refl _, by show (0 : Int) < _; decide⟩⟩⟩
        · have h1 := hget i hi
          have h2 := hget i' hi'
          rw [← e] at h2
          exact HIN.out i i' _ h1 h2
        · rintro q (rfl | h | ⟨i, hi, rfl⟩)
          · exact HI.out.gh
          · exact HI.out.made.new q h
          · exact (HRU.out i _ (hget i hi)).2
end Go.Proofs.Ytkmkeleifkkbnaa
set_option linter.unusedVariables false
set_option linter.unusedSimpArgs false
namespace Go.Proofs.Ytkmkeleifkkbnaa
theorem fin_no {R : LS} (h : Int) (e : R.ret = 0) : R.finR = R ∧ R.finH h = h := by
  have ho : R.over = false := by unfold LS.over; rw [e]; rfl
  unfold LS.finR LS.finH; rw [ho]; exact ⟨rfl, rfl⟩
theorem fin_on {R : LS} (h : Int) (e : R.k.on = true) : R.finR = R ∧ R.finH h = h := by
  have ho : R.over = false := by unfold LS.over; rw [e]; simp
  unfold LS.finR LS.finH; rw [ho]; exact ⟨rfl, rfl⟩
theorem fin_yes {R : LS} (h : Int) (e : R.ret ≠ 0) (e2 : R.k.on = false) : R.finR = zeroF R 0 ∧ R.finH h = behindI R.op R.ret h := by
  have ho : R.over = true := by unfold LS.over; rw [e2]; simpa using e
  unfold LS.finR LS.finH; rw [ho]; exact ⟨rfl, rfl⟩
def wi (b : Int) (n : Nat) (β : Int) : Int := (256 * (b + n) + β) % 4294967296
theorem wi_up (b : Int) (n : Nat) (β : Int) : (256 + wi b n β) % 4294967296 = wi b (n + 1) β := by unfold wi; push_cast; omega
theorem wi_up' (b : Int) (n : Nat) (β : Int) : (wi b n β + 256) % 4294967296 = wi b (n + 1) β := by unfold wi; push_cast; omega
theorem wi_add (b : Int) (n : Nat) (β x : Int) : (x + wi b n β) % 4294967296 = wi b n (x + β) := by unfold wi; omega
theorem wi_bits (b : Int) (n : Nat) {β : Int} (h : 0 ≤ β ∧ β < 4) : bitsI (wi b n β) = β := by unfold bitsI wi; omega
theorem wi_inj {b : Int} {n n' : Nat} {β : Int} (h : wi b n β = wi b n' β) (h1 : n < 100000) (h2 : n' < 100000) : n = n' := by unfold wi at h; omega
theorem wi_less2 {b : Int} {o a : Nat} (h : wi b o 0 = (wi b a 0 - 256) % 4294967296) (h1 : o < 50000) (h2 : a < 50000) : o + 1 = a := by unfold wi at h; omega
theorem wi_van (b : Int) (n : Nat) (P : Int) : (((0 - P) % 4294967296) + wi b n P) % 4294967296 = wi b n 0 := by unfold wi; omega
theorem wi_van' (b : Int) (n : Nat) (P : Int) : (((256 - P) % 4294967296) + wi b n P) % 4294967296 = wi b (n + 1) 0 := by unfold wi; push_cast; omega
end Go.Proofs.Ytkmkeleifkkbnaa
set_option linter.unusedVariables false
set_option linter.unusedSimpArgs false
namespace Go.Proofs.Ytkmkeleifkkbnaa
abbrev WtG := Int → Int → Int → Int → Int → Int → Option (Int × (Int → Bool))
abbrev wtR (wt : WtG) (r : LS) : Option (Int × (Int → Bool)) := wt r.n r.task r.op r.line r.a r.b
structure WaitLn (wt : WtG) (r r' : LS) (c : Int) (q : Int → Bool) : Prop where
  xs : r'.xs = (r.stepR c q).xs
  s : r'.s = (r.stepR c q).next
  k : r'.k = r.k
  b : r'.b = r.b
  a : (r.stepR c q).seen = false → r'.a = r.a
  stay : (r.stepR c q).done = false → r'.line = r.line ∧ r'.ret = r.ret ∧ wtR wt r' = wtR wt r
structure PlainLn (r r' : LS) : Prop where
  far : ∀ d, 8 + 2 * r.n ≤ d → wordAt r'.xs d = wordAt r.xs d
  s : r'.s = r.s
  k : r'.k = r.k ∨ ∃ c, r'.k = beginI r.mode c
structure LinesQ (L : LS → LS) (wt : WtG) : Prop where
  cB : ∀ (r : LS) c q, wtR wt r = some (c, q) → r.n ≤ 64 → 0 ≤ r.task → r.task < r.n → 0 ≤ c ∧ c < 8 + 2 * r.n
  op0 : ∀ r : LS, r.op = 0 → wtR wt r = none
  line0 : ∀ r : LS, r.line = 0 → wtR wt r = none
  same : ∀ r : LS, (L r).n = r.n ∧ (L r).mode = r.mode ∧ (L r).task = r.task ∧ (L r).op = r.op ∧ (L r).xs.length = r.xs.length
  wait : ∀ (r : LS) c q, r.k.on = false → wtR wt r = some (c, q) → WaitLn wt r (L r) c q
structure GenQ (wt : WtG) (k : Nat) (mode : Int) (m : MV) : Prop where
  len : m.xs.length = 8 + 4 * k
  cst : ∀ i, i < k → (m.rs i).n = k ∧ (m.rs i).mode = mode ∧ (m.rs i).task = i
  sr : ∀ i, i < k → (m.rs i).s = 0 ∨ (m.rs i).s = 1 ∨ (m.rs i).s = 2 ∨ (m.rs i).s = 3 ∨ (m.rs i).s = 4
  sp : ∀ i, i < k → mode ≠ 2 → (m.rs i).s = 0
  sw : ∀ i, i < k → (m.rs i).s ≠ 0 → (∃ c q, wtR wt (m.rs i) = some (c, q)) ∧ (m.rs i).k.on = false
  wat : ∀ i, i < k → ((m.rs i).s = 0 ∨ (m.rs i).s = 1 → wordAt m.xs (wc k i) = 0) ∧ ((m.rs i).s = 2 ∨ (m.rs i).s = 3 ∨ (m.rs i).s = 4 → ∀ c q, wtR wt (m.rs i) = some (c, q) → wordAt m.xs (wc k i) = c + 1)
  kon : ∀ i, i < k → (m.rs i).k.on = true → 0 ≤ (m.rs i).k.i ∧ (m.rs i).k.i < k
  rt : ∀ i, i < k → (m.rs i).k.on = false → (m.rs i).ret = 0
  idle : ∀ i, i < k → (m.rs i).op = 0 → (m.rs i).k.on = false
  nl : ∀ i, i < k → ∀ c q, wtR wt (m.rs i) = some (c, q) → (m.rs i).s = 3 → hasP m.xs k i = false → q (wordAt m.xs c) = true → ∃ j, j < k ∧ (m.rs j).k.on = true ∧ (m.rs j).k.c = c ∧ (m.rs j).k.i ≤ i
section
variable {L : LS → LS} {wt : WtG} {k : Nat} {mode : Int} {m : MV} {t : Nat}
theorem GenQ.cell (h : GenQ wt k mode m) (hL : LinesQ L wt) (hk : k ≤ 64) {i : Nat} (hi : i < k) {c : Int} {q : Int → Bool} (hw : wtR wt (m.rs i) = some (c, q)) : 0 ≤ c ∧ c < 8 + 2 * k := by
  obtain ⟨c1, c2, c3⟩ := h.cst i hi
  have := hL.cB (m.rs i) c q hw (by omega) (by omega) (by omega)
  rwa [c1] at this
theorem GenQ.start (hL : LinesQ L wt) (h : GenQ wt k mode m) (ht : t < k) (h0 : (m.rs t).op = 0) (op : Int) : GenQ wt k mode (m.start t op) := by
  have hon := h.idle t ht h0
  have hs0 : (m.rs t).s = 0 := by
    by_cases e : (m.rs t).s = 0
    · exact e
    · obtain ⟨⟨c, q, hw⟩, _⟩ := h.sw t ht e
      rw [hL.op0 _ h0] at hw; cases hw
  have hxs : (m.start t op).xs = m.xs := rfl
  have hrs : (m.start t op).rs = upd m.rs t (zeroF (m.at t) op) := rfl
  refine ⟨h.len, fun i hi => ?_, fun i hi => ?_, fun i hi hm => ?_, fun i hi hne => ?_, fun i hi => ?_, fun i hi ho => ?_, fun i hi ho => ?_, fun i hi ho => ?_, fun i hi c q hw hs hp hq => ?_⟩
  all_goals rw [hrs] at *
  all_goals try rw [hxs] at *
  · by_cases e : i = t
    · subst e; rw [upd_same]; exact h.cst i hi
    · rw [upd_other _ _ e]; exact h.cst i hi
  · by_cases e : i = t
    · subst e; rw [upd_same]; exact .inl rfl
    · rw [upd_other _ _ e]; exact h.sr i hi
  · by_cases e : i = t
    · subst e; rw [upd_same]; rfl
    · rw [upd_other _ _ e]; exact h.sp i hi hm
  · by_cases e : i = t
    · subst e; rw [upd_same] at hne; exact absurd rfl hne
    · rw [upd_other _ _ e] at hne ⊢; exact h.sw i hi hne
  · by_cases e : i = t
    · subst e; rw [upd_same]
      exact ⟨fun _ => (h.wat i hi).1 (.inl hs0), fun hh => by rcases hh with hh | hh | hh <;> cases hh⟩
    · rw [upd_other _ _ e]; exact h.wat i hi
  · by_cases e : i = t
    · subst e; rw [upd_same] at ho; cases ho
    · rw [upd_other _ _ e] at ho ⊢; exact h.kon i hi ho
  · by_cases e : i = t
    · subst e; rw [upd_same]; rfl
    · rw [upd_other _ _ e] at ho ⊢; exact h.rt i hi ho
  · by_cases e : i = t
    · subst e; rw [upd_same]; rfl
    · rw [upd_other _ _ e] at ho ⊢; exact h.idle i hi ho
  · have far : ∀ j, j < k → (m.rs j).k.on = true → j ≠ t := fun j _ ho e => by subst e; rw [hon] at ho; cases ho
    by_cases e : i = t
    · subst e; rw [upd_same] at hs; cases hs
    · rw [upd_other _ _ e] at hw hs
      obtain ⟨j, hj, h1, h2, h3⟩ := h.nl i hi c q hw hs hp hq
      exact ⟨j, hj, by rw [upd_other _ _ (far j hj h1)]; exact ⟨h1, h2, h3⟩⟩
end
end Go.Proofs.Ytkmkeleifkkbnaa
set_option linter.unusedVariables false
set_option linter.unusedSimpArgs false
namespace Go.Proofs.Ytkmkeleifkkbnaa
structure StepQ (wt : WtG) (k : Nat) (mode : Int) (m : MV) (t : Nat) (R : LS) : Prop where
  len : R.xs.length = 8 + 4 * k
  cst : R.n = k ∧ R.mode = mode ∧ R.task = t
  sr : R.s = 0 ∨ R.s = 1 ∨ R.s = 2 ∨ R.s = 3 ∨ R.s = 4
  sp : mode ≠ 2 → R.s = 0
  sw : R.s ≠ 0 → (∃ c q, wtR wt R = some (c, q)) ∧ R.k.on = false ∧ R.ret = 0
  wat : (R.s = 0 ∨ R.s = 1 → wordAt R.xs (wc k t) = 0) ∧ (R.s = 2 ∨ R.s = 3 ∨ R.s = 4 → ∀ c q, wtR wt R = some (c, q) → wordAt R.xs (wc k t) = c + 1)
  kon : R.k.on = true → 0 ≤ R.k.i ∧ R.k.i < k
  op : R.op ≠ 0
  far : ∀ i, i < k → i ≠ t → wordAt R.xs (wc k i) = wordAt m.xs (wc k i)
  nlt : R.s = 3 → ∀ c q, wtR wt R = some (c, q) → q (wordAt R.xs c) = false
  nl : ∀ i, i < k → i ≠ t → ∀ c q, wtR wt (m.rs i) = some (c, q) → (m.rs i).s = 3 → hasP R.xs k i = false → q (wordAt R.xs c) = true → ∃ j, j < k ∧ (upd (fun j => (m.rs j).k) t R.k j).on = true ∧ (upd (fun j => (m.rs j).k) t R.k j).c = c ∧ (upd (fun j => (m.rs j).k) t R.k j).i ≤ i
section
variable {L : LS → LS} {wt : WtG} {k : Nat} {mode : Int} {m : MV} {t : Nat}
theorem StepQ.gen (hL : LinesQ L wt) (h : GenQ wt k mode m) (ht : t < k) {R : LS} {hv : Int} (hT : StepQ wt k mode m t R) : GenQ wt k mode ⟨upd m.rs t R.finR, upd m.hold t hv, R.xs⟩ := by
  have hov : R.over = true → R.s = 0 ∧ R.k.on = false := fun e => by
    have e1 : R.ret ≠ 0 ∧ R.k.on = false := by
      unfold LS.over at e
      simpa using e
    refine ⟨?_, e1.2⟩
    by_cases e2 : R.s = 0
    · exact e2
    · exact absurd (hT.sw e2).2.2 e1.1
  have hno : R.over = false → R.finR = R := fun e => by unfold LS.finR; rw [e]; rfl
  have hye : R.over = true → R.finR = zeroF R 0 := fun e => by unfold LS.finR; rw [e]; rfl
  have hkon : ∀ j, j < k → (upd (fun j => (m.rs j).k) t R.k j).on = true → (upd m.rs t R.finR j).k = upd (fun j => (m.rs j).k) t R.k j := fun j hj ho => by
    by_cases e : j = t
    · subst e
      rw [upd_same] at ho ⊢
      rw [upd_same]
      cases ho2 : R.over
      · rw [hno ho2]
      · rw [(hov ho2).2] at ho; cases ho
    · rw [upd_other _ _ e, upd_other _ _ e]
  cases ho : R.over
  · have hf := hno ho
    refine ⟨hT.len, fun i hi => ?_, fun i hi => ?_, fun i hi hm => ?_, fun i hi hne => ?_, fun i hi => ?_, fun i hi ho => ?_, fun i hi ho => ?_, fun i hi ho => ?_, fun i hi c q hw hs hp hq => ?_⟩
    all_goals dsimp only at *
    · by_cases e : i = t
      · subst e; rw [upd_same, hf]; exact hT.cst
      · rw [upd_other _ _ e]; exact h.cst i hi
    · by_cases e : i = t
      · subst e; rw [upd_same, hf]; exact hT.sr
      · rw [upd_other _ _ e]; exact h.sr i hi
    · by_cases e : i = t
      · subst e; rw [upd_same, hf]; exact hT.sp hm
      · rw [upd_other _ _ e]; exact h.sp i hi hm
    · by_cases e : i = t
      · subst e; rw [upd_same, hf] at hne ⊢; exact ⟨(hT.sw hne).1, (hT.sw hne).2.1⟩
      · rw [upd_other _ _ e] at hne ⊢; exact h.sw i hi hne
    · by_cases e : i = t
      · subst e; rw [upd_same, hf]; exact hT.wat
      · rw [upd_other _ _ e, hT.far i hi e]; exact h.wat i hi
    · by_cases e : i = t
      · subst e; rw [upd_same, hf] at ho ⊢; exact hT.kon ho
      · rw [upd_other _ _ e] at ho ⊢; exact h.kon i hi ho
    · rename_i hov0
      by_cases e : i = t
      · subst e; rw [upd_same, hf] at ho ⊢
        by_cases e2 : R.ret = 0
        · exact e2
        · exfalso
          have : R.over = true := by unfold LS.over; rw [ho]; simpa using e2
          rw [hov0] at this; cases this
      · rw [upd_other _ _ e] at ho ⊢; exact h.rt i hi ho
    · by_cases e : i = t
      · subst e; rw [upd_same, hf] at ho; exact absurd ho hT.op
      · rw [upd_other _ _ e] at ho ⊢; exact h.idle i hi ho
    · by_cases e : i = t
      · subst e; rw [upd_same, hf] at hw hs
        rw [hT.nlt hs c q hw] at hq; cases hq
      · rw [upd_other _ _ e] at hw hs
        obtain ⟨j, hj, h1, h2, h3⟩ := hT.nl i hi e c q hw hs hp hq
        exact ⟨j, hj, by rw [hkon j hj h1]; exact ⟨h1, h2, h3⟩⟩
  · have hf := hye ho
    obtain ⟨hs0, hon⟩ := hov ho
    refine ⟨hT.len, fun i hi => ?_, fun i hi => ?_, fun i hi hm => ?_, fun i hi hne => ?_, fun i hi => ?_, fun i hi ho => ?_, fun i hi ho => ?_, fun i hi ho => ?_, fun i hi c q hw hs hp hq => ?_⟩
    all_goals dsimp only at *
    · by_cases e : i = t
      · subst e; rw [upd_same, hf]; exact hT.cst
      · rw [upd_other _ _ e]; exact h.cst i hi
    · by_cases e : i = t
      · subst e; rw [upd_same, hf]; exact .inl rfl
      · rw [upd_other _ _ e]; exact h.sr i hi
    · by_cases e : i = t
      · subst e; rw [upd_same, hf]; rfl
      · rw [upd_other _ _ e]; exact h.sp i hi hm
    · by_cases e : i = t
      · subst e; rw [upd_same, hf] at hne; exact absurd rfl hne
      · rw [upd_other _ _ e] at hne ⊢; exact h.sw i hi hne
    · by_cases e : i = t
      · subst e; rw [upd_same, hf]
        exact ⟨fun _ => hT.wat.1 (.inl hs0), fun hh => by rcases hh with hh | hh | hh <;> cases hh⟩
      · rw [upd_other _ _ e, hT.far i hi e]; exact h.wat i hi
    · by_cases e : i = t
      · subst e; rw [upd_same, hf] at ho; cases ho
      · rw [upd_other _ _ e] at ho ⊢; exact h.kon i hi ho
    · by_cases e : i = t
      · subst e; rw [upd_same, hf]; rfl
      · rw [upd_other _ _ e] at ho ⊢; exact h.rt i hi ho
    · by_cases e : i = t
      · subst e; rw [upd_same, hf]; rfl
      · rw [upd_other _ _ e] at ho ⊢; exact h.idle i hi ho
    · by_cases e : i = t
      · subst e; rw [upd_same, hf] at hs; cases hs
      · rw [upd_other _ _ e] at hw hs
        obtain ⟨j, hj, h1, h2, h3⟩ := hT.nl i hi e c q hw hs hp hq
        exact ⟨j, hj, by rw [hkon j hj h1]; exact ⟨h1, h2, h3⟩⟩
theorem stepq_waking (hL : LinesQ L wt) (hk : k ≤ 64) (h : GenQ wt k mode m) (ht : t < k) (hop : (m.rs t).op ≠ 0) (hon : (m.rs t).k.on = true) : StepQ wt k mode m t (m.at t).waking := by
  obtain ⟨c1, c2, c3⟩ := h.cst t ht
  obtain ⟨k0, k1⟩ := h.kon t ht hon
  have hs0 : (m.rs t).s = 0 := by
    by_cases e : (m.rs t).s = 0
    · exact e
    · rw [(h.sw t ht e).2] at hon; cases hon
  obtain ⟨i0, hi0⟩ := Int.eq_ofNat_of_zero_le k0
  have hi1 : i0 < k := by omega
  obtain ⟨on, kc, ki, hit, hkk⟩ : ∃ on kc ki hit, (m.rs t).k = ⟨on, kc, ki, hit⟩ := ⟨_, _, _, _, rfl⟩
  rw [hkk] at hon hi0
  dsimp only at hon hi0
  subst hon hi0
  obtain ⟨wh, wl⟩ := wake_cases (xs := m.xs) (c := kc) (hit := hit) hk h.len hi1
  have hxs : (m.at t).waking.xs = (wakeI m.xs k true kc i0 hit).xs := by show (wakeI m.xs (m.rs t).n _ _ _ _).xs = _; rw [c1, show (m.at t).k = ⟨true, kc, (i0 : Int), hit⟩ from hkk]
  have hk' : (m.at t).waking.k = (wakeI m.xs k true kc i0 hit).next := by show (wakeI m.xs (m.rs t).n _ _ _ _).next = _; rw [c1, show (m.at t).k = ⟨true, kc, (i0 : Int), hit⟩ from hkk]
  have hs' : (m.at t).waking.s = 0 := hs0
  have hwat : ∀ i, i < k → wordAt (m.at t).waking.xs (wc k i) = wordAt m.xs (wc k i) := fun i hi => by rw [hxs]; exact wake_wat hk (by omega) (by omega) hi
  have hown : ∀ d : Int, 0 ≤ d → d < 8 + 2 * k → wordAt (m.at t).waking.xs d = wordAt m.xs d := fun d h0 h1 => by
    rw [hxs]
    exact own_wake (by rw [pc_at hk hi1]; omega)
  have hnx : (nextI k kc i0).on = true → (nextI k kc i0).i = i0 + 1 ∧ (nextI k kc i0).c = kc ∧ (i0 : Int) + 1 < k := fun e => by
    unfold nextI at *
    split
    · rename_i e2; rw [if_pos e2] at e; cases e
    · exact ⟨rfl, rfl, by omega⟩
  have hnxt : (i0 : Int) + 1 < k → (nextI k kc i0).on = true ∧ (nextI k kc i0).i = i0 + 1 ∧ (nextI k kc i0).c = kc := fun e => by
    unfold nextI
    rw [if_neg (by omega)]
    exact ⟨rfl, rfl, rfl⟩
  refine ⟨by rw [hxs]; exact (wake_len0 m.xs k kc i0 hit).trans h.len, ⟨c1, c2, c3⟩, .inl hs', fun _ => hs', fun e => absurd hs' e, ⟨fun _ => by rw [hwat t ht]; exact (h.wat t ht).1 (.inl hs0), fun e => (by rw [hs'] at e; rcases e with e | e | e <;> cases e)⟩, fun ho => ?_, hop, fun i hi _ => hwat i hi, fun e => (by rw [hs'] at e; cases e), fun i hi hne c q hw hs hp hq => ?_⟩
  · rw [hk'] at ho ⊢
    cases hh : hit
    · subst hh
      rcases (wl rfl).2 with ⟨_, e⟩ | ⟨_, e⟩
      · rw [e]; exact ⟨by show (0 : Int) ≤ i0; omega, by show (i0 : Int) < k; omega⟩
      · rw [e] at ho ⊢
        obtain ⟨a1, a2, a3⟩ := hnx ho
        rw [a1]; omega
    · subst hh
      rw [(wh rfl).1] at ho ⊢
      obtain ⟨a1, a2, a3⟩ := hnx ho
      rw [a1]; omega
  · obtain ⟨hc0, hc8⟩ := h.cell hL hk hi hw
    rw [hown c hc0 hc8] at hq
    have hp0 : hasP m.xs k i = false := by
      cases hh : hit
      · subst hh; rwa [hxs, (wl rfl).1] at hp
      · subst hh
        rw [hxs, (wh rfl).2 i hi] at hp
        by_cases e : i = i0
        · rw [if_pos e] at hp; cases hp
        · rwa [if_neg e] at hp
    obtain ⟨j, hj, h1, h2, h3⟩ := h.nl i hi c q hw hs hp0 hq
    by_cases e : j = t
    · subst e
      rw [hkk] at h1 h2 h3
      dsimp only at h1 h2 h3
      subst h2
      refine ⟨j, hj, ?_⟩
      rw [upd_same, hk']
      have hwi : wordAt m.xs (wc k i) = kc + 1 := (h.wat i hi).2 (.inr (.inl hs)) kc q hw
      cases hh : hit
      · subst hh
        rcases (wl rfl).2 with ⟨_, e⟩ | ⟨e0, e⟩
        · rw [e]; exact ⟨rfl, rfl, h3⟩
        · have hne2 : i ≠ i0 := fun e3 => by
            subst e3
            rw [hwi] at e0
            exact e0 (by omega)
          rw [e]
          obtain ⟨a1, a2, a3⟩ := hnxt (by omega)
          exact ⟨a1, a3, by rw [a2]; omega⟩
      · subst hh
        have hne2 : i ≠ i0 := fun e3 => by
          rw [hxs, (wh rfl).2 i hi, if_pos e3] at hp; cases hp
        rw [(wh rfl).1]
        obtain ⟨a1, a2, a3⟩ := hnxt (by omega)
        exact ⟨a1, a3, by rw [a2]; omega⟩
    · exact ⟨j, hj, by rw [upd_other _ _ e]; exact ⟨h1, h2, h3⟩⟩
theorem stepq_wait (hL : LinesQ L wt) (hk : k ≤ 64) (h : GenQ wt k mode m) (ht : t < k) (hop : (m.rs t).op ≠ 0) (hon : (m.rs t).k.on = false) (hst : (m.at t).stuck = false) {c : Int} {q : Int → Bool} (hw : wtR wt (m.rs t) = some (c, q)) : StepQ wt k mode m t (L (m.at t).fresh) := by
  obtain ⟨c1, c2, c3⟩ := h.cst t ht
  obtain ⟨s1, s2, s3, s4, s5⟩ := hL.same (m.at t).fresh
  have W := hL.wait (m.at t).fresh c q hon hw
  obtain ⟨hc0, hc8⟩ := h.cell hL hk ht hw
  have hr0 := h.rt t ht hon
  have hR : (m.at t).fresh.stepR c q = stepI m.xs k mode t (m.rs t).s c q := by
    show stepI m.xs (m.rs t).n (m.rs t).mode (m.rs t).task (m.rs t).s c q = _
    rw [c1, c2, c3]
  have hxs := W.xs
  have hs' := W.s
  have hstay := W.stay
  rw [hR] at hxs hs' hstay
  have hns : ¬ (mode = 2 ∧ (m.rs t).s = 3 ∧ hasP m.xs k t = false) := fun ⟨e1, e2, e3⟩ => by
    have : (m.at t).stuck = true := by
      unfold LS.stuck stuckB
      show (!(m.rs t).k.on && ((m.rs t).mode == 2 && (m.rs t).s == 3 && !hasP m.xs (m.rs t).n (m.rs t).task)) = true
      rw [hon, c1, c2, c3, e1, e2, e3]; rfl
    rw [hst] at this; cases this
  have hkt : (L (m.at t).fresh).k.on = false := by rw [W.k]; exact hon
  have hnext := step_next (xs := m.xs) (k := k) (mode := mode) (t := t) (s := (m.rs t).s) (c := c) (q := q)
  have hdn := step_done0 (xs := m.xs) (k := k) (mode := mode) (t := t) (s := (m.rs t).s) (c := c) (q := q)
  have hown : ∀ d : Int, 0 ≤ d → d < 8 + 2 * k → wordAt (L (m.at t).fresh).xs d = wordAt m.xs d := fun d h0 h1 => by
    rw [hxs]
    exact own_wait (by rw [wc_at hk ht]; omega) (by rw [pc_at hk ht]; omega)
  have hwat : ∀ i, i < k → _ := fun i hi => step_wat (xs := m.xs) (mode := mode) (s := (m.rs t).s) (c := c) (q := q) hk h.len ht hi
  have hper : ∀ i, i < k → _ := fun i hi => step_per (xs := m.xs) (mode := mode) (s := (m.rs t).s) (c := c) (q := q) hk h.len ht hi
  have hsr := h.sr t ht
  have hline : (L (m.at t).fresh).s ≠ 0 → wtR wt (L (m.at t).fresh) = some (c, q) ∧ (L (m.at t).fresh).ret = 0 := fun e => by
    rw [hs'] at e
    cases hd : (stepI m.xs k mode t (m.rs t).s c q).done
    · obtain ⟨l1, l2, l3⟩ := hstay hd
      exact ⟨l3.trans hw, l2.trans hr0⟩
    · exact absurd (hdn hd) e
  have hnx4 : (L (m.at t).fresh).s = 0 ∨ (L (m.at t).fresh).s = 1 ∨ (L (m.at t).fresh).s = 2 ∨ (L (m.at t).fresh).s = 3 ∨ (L (m.at t).fresh).s = 4 := by
    rw [hs']; rcases hnext with ⟨e, _⟩ | ⟨_, _, e⟩
    · exact .inl e
    · rcases e with ⟨e, _⟩ | ⟨e, _⟩ | ⟨e, _⟩ | ⟨e, _⟩
      · exact .inr (.inl e)
      · exact .inr (.inr (.inl e))
      · exact .inr (.inr (.inr (.inl e)))
      · exact .inr (.inr (.inr (.inr e)))
  refine ⟨s5.trans h.len, ⟨s1.trans c1, s2.trans c2, s3.trans c3⟩, hnx4, fun hm => ?_, fun e => ⟨⟨c, q, (hline e).1⟩, hkt, (hline e).2⟩, ⟨fun e => ?_, fun e c' q' hw' => ?_⟩, fun e => (by rw [hkt] at e; cases e), by rw [s4]; exact hop, fun i hi hne => ?_, fun e c' q' hw' => ?_, fun i hi hne c' q' hw' hs hp hq => ?_⟩
  · rw [hs']
    rw [stepI_spin hm]
  · rw [hxs, hwat t ht]
    rw [hs'] at e
    have w0 := (h.wat t ht).1
    rcases hnext with ⟨e1, e2⟩ | ⟨em, _, ⟨_, e1, e2, e3, e4⟩ | ⟨e1, _⟩ | ⟨e1, _⟩ | ⟨e1, _⟩⟩
    · rcases hsr with e3 | e3 | e3 | e3 | e3
      · rw [if_neg (by omega), if_neg (by omega)]; exact w0 (.inl e3)
      · exfalso
        by_cases em : mode = 2
        · rw [em, e3] at e1; cases e1
        · have := h.sp t ht em; omega
      · exfalso
        by_cases em : mode = 2
        · rw [em, e3, stepI_2] at e1; simp only at e1; split at e1 <;> cases e1
        · have := h.sp t ht em; omega
      · exfalso
        by_cases em : mode = 2
        · rw [em, e3, stepI_3] at e1; simp only at e1; split at e1 <;> cases e1
        · have := h.sp t ht em; omega
      · rw [if_neg (by omega)]
        by_cases em : mode = 2
        · rw [if_pos ⟨rfl, em, e3⟩]
        · have := h.sp t ht em; omega
    · rw [if_neg (by omega), if_neg (by omega)]; exact w0 (by omega)
    · omega
    · omega
    · omega
  · have hne0 : (L (m.at t).fresh).s ≠ 0 := by omega
    rw [(hline hne0).1] at hw'
    obtain ⟨rfl, rfl⟩ := Prod.mk.inj (Option.some.inj hw')
    rw [hxs, hwat t ht]
    rw [hs'] at e
    have w2 := fun e => (h.wat t ht).2 e c q hw
    rcases hnext with ⟨e1, e2⟩ | ⟨em, _, ⟨e1, _⟩ | ⟨e1, e2⟩ | ⟨e1, e2⟩ | ⟨e1, e2, _⟩⟩
    · omega
    · omega
    · rcases e2 with e2 | ⟨e2, _⟩
      · rw [if_pos ⟨rfl, em, e2⟩]; omega
      · rw [if_neg (by omega), if_neg (by omega)]; exact w2 (.inr (.inl e2))
    · rw [if_neg (by omega), if_neg (by omega)]
      rcases e2 with ⟨e2, _⟩ | ⟨e2, _⟩
      · exact w2 (.inl e2)
      · exact w2 (.inr (.inl e2))
    · rw [if_neg (by omega), if_neg (by omega)]; exact w2 (.inl e2)
  · rw [hxs, hwat i hi, if_neg (fun e => hne e.1), if_neg (fun e => hne e.1)]
  · have hne0 : (L (m.at t).fresh).s ≠ 0 := by omega
    rw [(hline hne0).1] at hw'
    obtain ⟨rfl, rfl⟩ := Prod.mk.inj (Option.some.inj hw')
    rw [hown c hc0 hc8]
    rw [hs'] at e
    rcases hnext with ⟨e1, _⟩ | ⟨em, _, ⟨e1, _⟩ | ⟨e1, _⟩ | ⟨_, e2⟩ | ⟨e1, _⟩⟩
    · omega
    · omega
    · omega
    · rcases e2 with ⟨_, e2⟩ | ⟨e2, e3⟩
      · exact e2
      · exact absurd ⟨em, e2, e3⟩ hns
    · omega
  · obtain ⟨hc0', hc8'⟩ := h.cell hL hk hi hw'
    rw [hown c' hc0' hc8'] at hq
    rw [hxs, hper i hi, if_neg (fun e => hne e.1)] at hp
    obtain ⟨j, hj, h1, h2, h3⟩ := h.nl i hi c' q' hw' hs hp hq
    have : j ≠ t := fun e => by subst e; rw [hon] at h1; cases h1
    exact ⟨j, hj, by rw [upd_other _ _ this]; exact ⟨h1, h2, h3⟩⟩
theorem stepq_plain (hL : LinesQ L wt) (hk : k ≤ 64) (hk1 : 1 ≤ k) (h : GenQ wt k mode m) (ht : t < k) (hop : (m.rs t).op ≠ 0) (hon : (m.rs t).k.on = false) (hw : wtR wt (m.rs t) = none) (P : PlainLn (m.at t).fresh (L (m.at t).fresh))
    (hwk : ∀ i, i < k → i ≠ t → ∀ c q, wtR wt (m.rs i) = some (c, q) → (m.rs i).s = 3 → q (wordAt (L (m.at t).fresh).xs c) = true → q (wordAt m.xs c) = true ∨ (L (m.at t).fresh).k = beginI 2 c) : StepQ wt k mode m t (L (m.at t).fresh) := by
  obtain ⟨c1, c2, c3⟩ := h.cst t ht
  obtain ⟨s1, s2, s3, s4, s5⟩ := hL.same (m.at t).fresh
  have cn : (m.at t).fresh.n = k := c1
  have hs0 : (m.rs t).s = 0 := by
    by_cases e : (m.rs t).s = 0
    · exact e
    · obtain ⟨⟨c, q, e2⟩, _⟩ := h.sw t ht e
      rw [hw] at e2; cases e2
  have hs' : (L (m.at t).fresh).s = 0 := P.s.trans hs0
  have hwat : ∀ i, i < k → wordAt (L (m.at t).fresh).xs (wc k i) = wordAt m.xs (wc k i) := fun i hi => P.far _ (by rw [cn, wc_at hk hi]; omega)
  have hper : ∀ i, i < k → hasP (L (m.at t).fresh).xs k i = hasP m.xs k i := fun i hi => by unfold hasP; rw [P.far _ (by rw [cn, pc_at hk hi]; omega)]; rfl
  refine ⟨s5.trans h.len, ⟨s1.trans c1, s2.trans c2, s3.trans c3⟩, .inl hs', fun _ => hs', fun e => absurd hs' e, ⟨fun _ => by rw [hwat t ht]; exact (h.wat t ht).1 (.inl hs0), fun e => by omega⟩, fun e => ?_, by rw [s4]; exact hop, fun i hi _ => hwat i hi, fun e => by omega, fun i hi hne c q hw' hs hp hq => ?_⟩
  · rcases P.k with e2 | ⟨c, e2⟩
    · rw [e2] at e; rw [show (m.at t).fresh.k = (m.rs t).k from rfl, hon] at e; cases e
    · rw [e2] at e ⊢
      unfold beginI at *
      split
      · exact ⟨Int.le_refl _, by show (0 : Int) < k; omega⟩
      · rename_i e3; rw [if_neg e3] at e; cases e
  · rcases hwk i hi hne c q hw' hs hq with hq0 | hb
    · rw [hper i hi] at hp
      obtain ⟨j, hj, h1, h2, h3⟩ := h.nl i hi c q hw' hs hp hq0
      have : j ≠ t := fun e => by subst e; rw [hon] at h1; cases h1
      exact ⟨j, hj, by rw [upd_other _ _ this]; exact ⟨h1, h2, h3⟩⟩
    · exact ⟨t, ht, by rw [upd_same, hb]; exact ⟨rfl, rfl, by show (0 : Int) ≤ i; omega⟩⟩
end
end Go.Proofs.Ytkmkeleifkkbnaa
set_option linter.unusedVariables false
set_option linter.unusedSimpArgs false
namespace Go.Proofs.Ytkmkeleifkkbnaa
inductive FR (h op line ret s : Int) (on : Bool) (c d y : Nat) : Prop
  | idle0 (ho : op = 0) (hr : ret = 0) (hh : h = 0) (hc : c = 0) (hd : d = 0) (hy : y = 0)
  | idle1 (ho : op = 0) (hr : ret = 0) (hh : h = 1) (hc : c = 1) (hd : d = 1) (hy : y = 0)
  | idle2 (ho : op = 0) (hr : ret = 0) (hh : h = 2) (hc : c = 0) (hd : d = 0) (hy : y = 1)
  | free (ho : (op = 1 ∧ line = 0) ∨ (op = 3 ∧ (line = 0 ∨ line = 1 ∨ line = 2)) ∨ ((op = 5 ∨ op = 6) ∧ (line = 0 ∨ line = 1))) (hr : ret = 0) (hh : h = 0) (hc : c = 0) (hd : d = 0) (hy : y = 0)
  | adm (ho : op = 1) (hl : line = 1) (hr : ret = 0) (hh : h = 0) (hc : c = 1) (hd : d = if s = 4 then 1 else 0) (hy : y = 0)
  | dep (ho : op = 2) (hl : line = 0) (hr : ret = 0) (hh : h = 0) (hc : c = 1) (hd : d = 1) (hy : y = 0)
  | gone (ho : op = 2 ∨ op = 4) (hr : ret = 2) (hh : h = 0) (hon : on = true) (hc : c = 0) (hd : d = 0) (hy : y = 0)
  | leave (ho : op = 4) (hl : line = 0) (hr : ret = 0) (hh : h = 0) (hc : c = 0) (hd : d = 0) (hy : y = 1)
  | up (ho : op = 7) (hl : line = 0 ∨ line = 1) (hr : ret = 0) (hh : h = 1) (hc : c = 1) (hd : d = 1) (hy : y = 0)
  | down (ho : op = 8) (hl : line = 0) (hr : ret = 0) (hh : h = 1) (hc : c = 0) (hd : d = 0) (hy : y = 1)
  | downed (ho : op = 8) (hr : ret = 2) (hh : h = 1) (hon : on = true) (hc : c = 1) (hd : d = 1) (hy : y = 0)
theorem ite_le1 {s : Int} {d : Nat} (h : d = if s = 4 then 1 else 0) : d ≤ 1 := by rw [h]; split <;> omega
theorem FR.le {h op line ret s : Int} {on : Bool} {c d y : Nat} (f : FR h op line ret s on c d y) : c ≤ 1 ∧ d ≤ c ∧ (h = 0 ∨ (h = 1 ∧ (d = 1 ∨ y = 1)) ∨ (h = 2 ∧ y = 1)) := by
  cases f with
  | adm ho hl hr hh hc hd hy => have := ite_le1 hd; omega
  | _ => omega
theorem FR.holdR {h op line ret s : Int} {on : Bool} {c d y : Nat} (f : FR h op line ret s on c d y) (h2 : h = 2) : op = 0 ∧ y = 1 := by cases f <;> omega
theorem FR.setOn {h op line ret s : Int} {on : Bool} {c d y : Nat} (f : FR h op line ret s on c d y) (hr0 : ret = 0) (on' : Bool) : FR h op line 0 s on' c d y := by
  cases f with
  | idle0 ho hr hh hc hd hy => exact .idle0 ho rfl hh hc hd hy
  | idle1 ho hr hh hc hd hy => exact .idle1 ho rfl hh hc hd hy
  | idle2 ho hr hh hc hd hy => exact .idle2 ho rfl hh hc hd hy
  | free ho hr hh hc hd hy => exact .free ho rfl hh hc hd hy
  | adm ho hl hr hh hc hd hy => exact .adm ho hl rfl hh hc hd hy
  | dep ho hl hr hh hc hd hy => exact .dep ho hl rfl hh hc hd hy
  | gone ho hr => omega
  | leave ho hl hr hh hc hd hy => exact .leave ho hl rfl hh hc hd hy
  | up ho hl hr hh hc hd hy => exact .up ho hl rfl hh hc hd hy
  | down ho hl hr hh hc hd hy => exact .down ho hl rfl hh hc hd hy
  | downed ho hr => omega
structure RI (k : Nat) (c d y : Nat → Nat) (m : MV) : Prop where
  f : ∀ i, i < k → FR (m.hold i) (m.rs i).op (m.rs i).line (m.rs i).ret (m.rs i).s (m.rs i).k.on (c i) (d i) (y i)
  w : wordAt m.xs 0 = (sumN c k + 65536 * sumN y k : Nat)
  y1 : sumN y k ≤ 1
  ex : sumN y k = 0 ∨ ∀ i, i < k → d i = 0
  sl : ∀ i, i < k → (m.rs i).op = 5 → (m.rs i).line = 1 → outW (m.rs i).a = true
def wtS : WtG := fun _ _ op line _ _ => if op = 1 ∧ line = 1 then some (0, outW) else if op = 3 ∧ line = 2 then some (0, isZ) else none
structure RMv (k : Nat) (mode : Int) (t : Nat) (c d y : Nat → Nat) (m : MV) (R : LS) (c' d' y' : Nat) : Prop where
  f : FR (R.finH (m.hold t)) R.finR.op R.finR.line R.finR.ret R.finR.s R.finR.k.on c' d' y'
  w : wordAt R.xs 0 = (sumN (upd c t c') k + 65536 * sumN (upd y t y') k : Nat)
  y1 : sumN (upd y t y') k ≤ 1
  ex : sumN (upd y t y') k = 0 ∨ (d' = 0 ∧ ∀ i, i < k → i ≠ t → d i = 0)
  sl : R.finR.op = 5 → R.finR.line = 1 → outW R.finR.a = true
  far : (m.rs t).k.on = false → wtR wtS (m.rs t) = none → ∀ e : Int, 8 + 2 * (k : Int) ≤ e → wordAt R.xs e = wordAt m.xs e
  wk : R.k = beginI mode 0 ∨ ((outW (wordAt R.xs 0) = true → outW (wordAt m.xs 0) = true) ∧ (wordAt R.xs 0 = 0 → wordAt m.xs 0 = 0))
def RGo (k : Nat) (mode : Int) (t : Nat) (c d y : Nat → Nat) (m : MV) (R : LS) : Prop := ∃ c' d' y', RMv k mode t c d y m R c' d' y'
structure RC (k : Nat) (mode : Int) (t : Nat) (c d y : Nat → Nat) (m : MV) : Prop where
  hk : k ≤ 64
  h : RI k c d y m
  ht : t < k
  len : m.xs.length = 8 + 4 * k
  n : (m.rs t).n = k ∧ (m.rs t).mode = mode ∧ (m.rs t).task = t
  on : (m.rs t).k.on = false
  s0 : wtR wtS (m.rs t) = none → (m.rs t).s = 0
  sp : mode ≠ 2 → (m.rs t).s = 0
  ret : (m.rs t).ret = 0
section
variable {k t : Nat} {mode : Int} {c d y : Nat → Nat} {m : MV} {R : LS} {c' d' y' : Nat}
theorem sum_set {f : Nat → Nat} (ht : t < k) (x : Nat) : sumN (upd f t x) k + f t = sumN f k + x := by
  have := sumN_upd (f := f) (g := upd f t x) (t := t) (k := k) ht (fun i _ hn => upd_other _ _ hn)
  rwa [upd_same] at this
theorem RI.small (h : RI k c d y m) : sumN c k ≤ k := by
  have h1 := sumN_le (f := c) (g := fun _ => 1) (k := k) fun i hi => (h.f i hi).le.1
  have h2 := sumN_const (c := 1) (k := k)
  omega
theorem RI.alone (h : RI k c d y m) (ht : t < k) (h2 : m.hold t = 2) (i : Nat) (hi : i < k) (hne : i ≠ t) : m.hold i = 0 := by
  have ft := (h.f t ht).holdR h2
  have fi := (h.f i hi).le
  have s2 : y i + y t ≤ sumN y k := by
    have := sum_set (f := y) hi 0
    have h3 := sumN_at (f := upd y i 0) ht
    rw [upd_other _ _ (fun e => hne e.symm)] at h3
    omega
  have := h.y1
  rcases h.ex with e | e
  · omega
  · have := e i hi; omega
theorem RMv.keep (g : RMv k mode t c d y m R c' d' y') (h : RI k c d y m) (ht : t < k) : RI k (upd c t c') (upd d t d') (upd y t y') ⟨upd m.rs t R.finR, upd m.hold t (R.finH (m.hold t)), R.xs⟩ := by
  refine ⟨fun i hi => ?_, g.w, g.y1, ?_, fun i hi e1 e2 => ?_⟩
  · dsimp only
    by_cases e : i = t
    · subst e; simp only [upd_same]; exact g.f
    · simp only [upd_other _ _ e]; exact h.f i hi
  · rcases g.ex with e | ⟨e1, e2⟩
    · exact .inl e
    · refine .inr fun i hi => ?_
      by_cases e : i = t
      · subst e; rw [upd_same]; exact e1
      · rw [upd_other _ _ e]; exact e2 i hi e
  · dsimp only at e1 e2 ⊢
    by_cases e : i = t
    · subst e; simp only [upd_same] at e1 e2 ⊢; exact g.sl e1 e2
    · simp only [upd_other _ _ e] at e1 e2 ⊢; exact h.sl i hi e1 e2
theorem RC.th (C : RC k mode t c d y m) : there m.xs 0 = true := there_lk C.len (by decide) (by omega)
theorem word_do (C : RC k mode t c d y m) (K x z : Int) (hK : isKind K = true := by rfl) : wordAt (doNew m.xs K 0 x z) 0 = leftOf K x z (wordAt m.xs 0) ∧ ∀ e : Int, e ≠ 0 → wordAt (doNew m.xs K 0 x z) e = wordAt m.xs e := by
  rw [doNew_st _ _ _ _ _ hK]
  exact ⟨by rw [word_st, if_pos C.th], fun e he => word_far _ (fun e2 => he e2.symm)⟩
theorem r_stay (C : RC k mode t c d y m) {o l : Int} (eo : R.op = o) (el : R.line = l) (er : R.ret = 0) (f : FR (m.hold t) o l 0 R.s R.k.on c' d' y') (sl : o = 5 → l = 1 → outW R.a = true) (w : wordAt R.xs 0 = (sumN (upd c t c') k + 65536 * sumN (upd y t y') k : Nat)) (y1 : sumN (upd y t y') k ≤ 1) (ex : sumN (upd y t y') k = 0 ∨ (d' = 0 ∧ ∀ i, i < k → i ≠ t → d i = 0))
    (far : (m.rs t).k.on = false → wtR wtS (m.rs t) = none → ∀ e : Int, 8 + 2 * (k : Int) ≤ e → wordAt R.xs e = wordAt m.xs e) (wk : R.k = beginI mode 0 ∨ ((outW (wordAt R.xs 0) = true → outW (wordAt m.xs 0) = true) ∧ (wordAt R.xs 0 = 0 → wordAt m.xs 0 = 0))) : RGo k mode t c d y m R := by
  obtain ⟨f1, f2⟩ := fin_no (R := R) (m.hold t) er
  exact ⟨c', d', y', by rw [f1, f2, eo, el, er]; exact f, w, y1, ex, by rw [f1, eo, el]; exact sl, far, wk⟩
theorem r_end (C : RC k mode t c d y m) {o l ret hv : Int} (eo : R.op = o) (el : R.line = l) (er : R.ret = ret) (hr : ret ≠ 0) (hb : behindI o ret (m.hold t) = hv) (f1 : R.k.on = true → FR (m.hold t) o l ret R.s true c' d' y' ∧ o ≠ 5) (f0 : ∀ s on, FR hv 0 0 0 s on c' d' y') (w : wordAt R.xs 0 = (sumN (upd c t c') k + 65536 * sumN (upd y t y') k : Nat)) (y1 : sumN (upd y t y') k ≤ 1) (ex : sumN (upd y t y') k = 0 ∨ (d' = 0 ∧ ∀ i, i < k → i ≠ t → d i = 0))
    (far : (m.rs t).k.on = false → wtR wtS (m.rs t) = none → ∀ e : Int, 8 + 2 * (k : Int) ≤ e → wordAt R.xs e = wordAt m.xs e) (wk : R.k = beginI mode 0 ∨ ((outW (wordAt R.xs 0) = true → outW (wordAt m.xs 0) = true) ∧ (wordAt R.xs 0 = 0 → wordAt m.xs 0 = 0))) : RGo k mode t c d y m R := by
  cases hon : R.k.on
  · obtain ⟨e1, e2⟩ := fin_yes (R := R) (m.hold t) (by rw [er]; exact hr) hon
    exact ⟨c', d', y', by rw [e1, e2, eo, er, hb]; exact f0 _ _, w, y1, ex, by rw [e1]; exact fun e => absurd e (by show (0 : Int) ≠ 5; decide), far, wk⟩
  · obtain ⟨e1, e2⟩ := fin_on (R := R) (m.hold t) hon
    obtain ⟨g1, g2⟩ := f1 hon
    exact ⟨c', d', y', by rw [e1, e2, eo, el, er, hon]; exact g1, w, y1, ex, by rw [e1, eo]; exact fun e => absurd e g2, far, wk⟩
theorem w_same (C : RC k mode t c d y m) (hx : wordAt R.xs 0 = wordAt m.xs 0) : wordAt R.xs 0 = (sumN (upd c t (c t)) k + 65536 * sumN (upd y t (y t)) k : Nat) ∧ sumN (upd y t (y t)) k ≤ 1 ∧ (R.k = beginI mode 0 ∨ ((outW (wordAt R.xs 0) = true → outW (wordAt m.xs 0) = true) ∧ (wordAt R.xs 0 = 0 → wordAt m.xs 0 = 0))) := by
  rw [updq_self, updq_self]
  exact ⟨hx.trans C.h.w, C.h.y1, .inr ⟨fun e => by rw [← hx]; exact e, fun e => by rw [← hx]; exact e⟩⟩
theorem ex_same (C : RC k mode t c d y m) {d' : Nat} (hd : d' ≤ d t) : sumN (upd y t (y t)) k = 0 ∨ (d' = 0 ∧ ∀ i, i < k → i ≠ t → d i = 0) := by
  rw [updq_self]
  rcases C.h.ex with e | e
  · exact .inl e
  · exact .inr ⟨by have := e t C.ht; omega, fun i hi _ => e i hi⟩
theorem doA_rs (m : MV) (t : Nat) (K x z : Int) : ((m.at t).fresh.doA K 0 x z).op = (m.rs t).op ∧ ((m.at t).fresh.doA K 0 x z).line = (m.rs t).line ∧ ((m.at t).fresh.doA K 0 x z).ret = (m.rs t).ret ∧ ((m.at t).fresh.doA K 0 x z).k = (m.rs t).k ∧ ((m.at t).fresh.doA K 0 x z).s = (m.rs t).s ∧ ((m.at t).fresh.doA K 0 x z).mode = (m.rs t).mode ∧ ((m.at t).fresh.doA K 0 x z).a = (m.rs t).a ∧ ((m.at t).fresh.doA K 0 x z).xs = doNew m.xs K 0 x z := ⟨rfl, rfl, rfl, rfl, rfl, rfl, rfl, rfl⟩
theorem at0_eq (C : RC k mode t c d y m) (x : Int) : (m.at t).fresh.at0 x = decide (wordAt m.xs 0 = x) := by
  show (there m.xs 0 && (wordAt m.xs 0 == x)) = _
  rw [C.th, Bool.true_and]; rfl
theorem r_look (C : RC k mode t c d y m) {o : Int} (ok : Bool) (ho : (m.rs t).op = o) (hl : (m.rs t).line = 0) (f : ∀ s on, FR (m.hold t) o 1 0 s on (c t) (d t) (y t)) (hb : behindI o 1 (m.hold t) = m.hold t) (f0 : ∀ s on, FR (m.hold t) 0 0 0 s on (c t) (d t) (y t)) (hsl : ok = true → o = 5 → outW (wordAt m.xs 0) = true) (hp : (m.at t).fresh.rf = (m.at t).fresh.fLook ok) : RGo k mode t c d y m (m.at t).fresh.rf := by
  rw [hp]; unfold LS.fLook
  obtain ⟨x0, xd⟩ := word_do C 1 0 0
  obtain ⟨f1, f2, f3, f4, f5, f6, f7, f8⟩ := doA_rs m t 1 0 0
  rw [← f8] at x0 xd
  generalize (m.at t).fresh.doA 1 0 0 0 = R0 at *
  have hx : wordAt R0.xs 0 = wordAt m.xs 0 := x0
  cases ok
  · rw [if_neg Bool.false_ne_true]
    obtain ⟨w1, w2, w3⟩ := w_same (R := ((R0.keepA (wordAt (m.at t).fresh.xs 0)).note 5 0).fin false) (mode := mode) C hx
    refine r_end C (o := o) (l := 0) (ret := 1) (f1.trans ho) (f2.trans hl) rfl (by decide) hb (fun e => ?_) f0 w1 w2 (ex_same C (Nat.le_refl _)) (fun _ _ e he => xd e (by omega)) w3
    have e' : R0.k.on = true := e
    rw [f4, C.on] at e'; cases e'
  · rw [if_pos rfl]
    obtain ⟨w1, w2, w3⟩ := w_same (R := (R0.keepA (wordAt (m.at t).fresh.xs 0)).go 1) (mode := mode) C hx
    exact r_stay C (o := o) (l := 1) (f1.trans ho) rfl (f3.trans C.ret) (f _ _) (fun e _ => hsl rfl e) w1 w2 (ex_same C (Nat.le_refl _)) (fun _ _ e he => xd e (by omega)) w3
end
end Go.Proofs.Ytkmkeleifkkbnaa
