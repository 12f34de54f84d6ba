import Derived.Deep.OwnRows
import Derived.Test.YtocdbeonogfopaaGreatG11
import Derived.Test.YtocdbeonogfopaaGreatG27
import Derived.Test.YtocdbeonogfopaaGreatG25
import Derived.Test.YtocdbeonogfopaaGreatG26
import Derived.Test.YtocdbeonogfopaaGreatG12
set_option linter.unusedVariables false
set_option linter.unusedSimpArgs false
namespace Go.Proofs.YtocdbeonogfopaaGreat
open Go.RowKit
theorem many_bd (m : MV) (what : Int) : ∀ k, manyI m what k ≤ k
  | 0 => Nat.le_refl _
  | k + 1 => by
    have := many_bd m what k
    unfold manyI
    split <;> omega
theorem many_any (L : List (Nat × TypeId × Array Value)) (w0 : World) (X GL GH : Nat) (B : Nat → Nat) (p A : Option Addr) (cp k : Nat) (m : MV) (what : Int) (w : World) (h : MatchP L w0 X GL GH B p A cp k m w) (hk : k ≤ 1000) :
    Calls Tryz.prog 14 #[Value.pointer (some ⟨X, 0, none⟩), .int .i64 what] w fun e w' => e = .returned (.int .i64 (manyI m what k)) ∧ w = w' := by
  obtain ⟨cl, hx0⟩ := h.x
  obtain ⟨csh, hh0, hh1⟩ := h.h
  have x1 : w.cell? ⟨X, 1, none⟩ = some (.slice (some ⟨GH, 0, none⟩) k k) := hx0.cell_ (i := 1) rfl
  have HH := Lib.hid (show ∀ i, i < k → w.cell? ⟨GH, i, none⟩ = some (.int .i64 (m.hold i)) from fun i hi => hh0.cell_ (hh1 i hi))
  clear h hx0 hh0 hh1
  go_enter Tryz.func14, Tryz.ntmps14
  go_wp2_with fail
  go_loop [5, 6] (fun nv iv => ∃ i : Nat, i ≤ k ∧ iv = .int .i64 i ∧ nv = .int .i64 (manyI m what i)) (fun _ iv => k - (intOf iv).toNat)
  case atStart => exact ⟨0, Nat.zero_le _, rfl, rfl⟩
  case round =>
    obtain ⟨i, hi, rfl, rfl⟩ := hrel
    have b1 := many_bd m what i
    by_cases hlt : i < k
    · have gh := HH.out i hlt
      have HS := Lib.hid (show manyI m what (i + 1) = if m.hold i = what then manyI m what i + 1 else manyI m what i from rfl)
      by_cases he : m.hold i = what
      · have he' : (m.hold i == what) = true := beq_iff_eq.2 he
        have HE := Lib.hid (HS.out.trans (if_pos he))
        clear he
        generalize manyI m what i = c at *
        generalize m.hold i = hv at *
        go_wp2
        go_round
        case rel => exact ⟨i + 1, by omega, by go_num, by rw [HE.out]; first | done | go_num⟩
        case measure => simp [intOf]; omega
      · have he' : (m.hold i == what) = false := beq_eq_false_iff_ne.2 he
        have HE := Lib.hid (HS.out.trans (if_neg he))
        clear he
        generalize manyI m what i = c at *
        generalize m.hold i = hv at *
        go_wp2
        go_round
        case rel => exact ⟨i + 1, by omega, by go_num, by rw [HE.out]; first | done | go_num⟩
        case measure => simp [intOf]; omega
    · obtain rfl : i = k := by omega
      go_wp2
      go_ret
      exact ⟨rfl, rfl⟩
theorem infoI : (Tryz.prog.info? 3).map (fun i => (i.zero, i.size, i.bytes)) = some (some (.int .i64 0), 1, 8) := by kernel_rfl
structure BegunI (w0 : World) (X GH b : Nat) (A : Option Addr) (cp k : Nat) (mode : Int) (xs : List Int) (j : Nat) (W : World) : Prop where
  x : ∃ lv bs, Row W X 49 #[lv, .slice (some ⟨GH, 0, none⟩) k k] ∧ OwnP w0.heap.size W lv bs ∧ bs.length = j ∧ (∀ (i : Nat) (b' : Nat), bs[i]? = some b' → Row W b' 61 (newCells (some ⟨b, 0, none⟩) k mode i 0) ∧ w0.heap.size ≤ b') ∧ (∀ (i i' b' : Nat), bs[i]? = some b' → bs[i']? = some b' → i = i')
  h : ∃ cs, Row W GH 3 cs ∧ ∀ i, i < k → cs[i]? = some (.int .i64 0)
  made : Made w0 b A cp xs W
  gh : w0.heap.size ≤ GH
  xb : w0.heap.size ≤ X
def BegunP (k : Nat) (m : MV) (w : World) (e : Ending) (w' : World) : Prop := ∃ X GL GH B p A cp, e = .returned (Value.pointer (some ⟨X, 0, none⟩)) ∧ MatchP [] w X GL GH B p A cp k m w'
set_option maxRecDepth 100000 in
set_option maxHeartbeats 2000000 in
theorem begun_any (k : Nat) (mode b0 : Int) (w : World) (hk : 1 ≤ k ∧ k ≤ 64) (hb : 0 ≤ b0 ∧ b0 < 4294967296) :
    Calls Tryz.prog 12 #[.int .i64 k, .int .i64 mode, .int .u32 b0] w (BegunP k ⟨fun i => newR k mode i 0 (pqXs k b0), fun _ => 0, (pqXs k b0)⟩ w) := by
  have HBD := Lib.hid hb
  have HK := Lib.hid hk
  have hk1 : (1 : Int) ≤ k := by omega
  have hk2 : (k : Int) ≤ 64 := by omega
  have hk3 : k ≤ 64 := by omega
  clear hb hk
  have hmk := fun W => run_make_row' (P := Tryz.prog) 23 3 (.int .i64 0) 8 Tryz.underlying23 infoI rfl .i64 .i64 k (by omega) (by omega) W
  go_enter Tryz.func12, Tryz.ntmps12
  go_wp2_with fail
  refine (first_pq k b0 _ HK.out HBD.out).mono ?_
  rintro e w1 ⟨gf, rfl, hg, hH, hO⟩
  have HH := Lib.hid hH
  have HO := Lib.hid hO
  clear hg hH hO
  go_wp2_with fail
  refine (from_ok _ _ _ _ _ (by omega) HH.out).mono ?_
  rintro e w2 ⟨b, A', c', rfl, hb, hA, hM, hO⟩
  have HM : Hid (Made w b A' c' _ w2) := Lib.hid ⟨hM, fun j hj => Nat.le_trans HO.out.size (hA j hj), HO.out.trans hO⟩
  clear hb hA hM hO HO HH
  have e1 := (Only.refl Nil w2).alloc (.cells (madeCells #[.int .i64 0] k) 3)
  have e2 := e1.alloc (.cells #[.slice none 0 0, .slice (some ⟨w2.heap.size, 0, none⟩) k k] 49)
  have HI0 : Hid (BegunI w (w2.heap.size + 1) w2.heap.size b A' c' k mode (pqXs k b0) 0 ((w2.alloc (.cells (madeCells #[.int .i64 0] k) 3)).alloc (.cells #[.slice none 0 0, .slice (some ⟨w2.heap.size, 0, none⟩) k k] 49))) :=
    Lib.hid ⟨⟨_, [], Row.new2 w2 _ _ _, ownP_nil _ _, rfl, fun i b' h => by simp at h, fun i i' b' h => by simp at h⟩, ⟨_, (Row.new w2 _ _).alloc _, fun i hi => made_zero k i hi⟩, ⟨HM.out.mem.only e2 id (fun _ _ => id), HM.out.new, HM.out.only.trans e2⟩, HM.out.only.size, Nat.le_trans HM.out.only.size (Nat.le_succ _)⟩
  clear e1 e2 HM
  go_upto_region 7 with (fail)
  generalize (w2.alloc (.cells (madeCells #[.int .i64 0] k) 3)).alloc (.cells #[.slice none 0 0, .slice (some ⟨w2.heap.size, 0, none⟩) k k] 49) = w3 at *
  generalize w2.heap.size + 1 = X at *
  generalize w2.heap.size = GH at *
  clear hmk
  go_loopw [12] (fun iv wr => ∃ j : Nat, j ≤ k ∧ iv = .int .i64 j ∧ BegunI w X GH b A' c' k mode (pqXs k b0) j wr) (fun iv _ => k - (intOf iv).toNat)
  case atStart => exact ⟨0, Nat.zero_le _, rfl, HI0.out⟩
  case round =>
    obtain ⟨j, hj, rfl, hI⟩ := hrel
    clear HI0
    obtain ⟨lv, bs, hx, hown, hlen, hruns, hinj⟩ := hI.x
    have HI := Lib.hid hI
    have HX := Lib.hid hx
    have HOW := Lib.hid hown
    have HLN := Lib.hid hlen
    have HRU := Lib.hid hruns
    have HIN := Lib.hid hinj
    clear hI hlen hruns hinj
    by_cases hlt : j < k
    · obtain ⟨A9, n9, c9, rfl⟩ := ownP_form hown
      have cx : wr.cell? ⟨X, 0, none⟩ = some (.slice A9 n9 c9) := hx.cell_ (i := 0) rfl
      clear hx hown
      have e1 := (Only.refl Nil wr).alloc (.cells (newCells (some ⟨b, 0, none⟩) k mode j 0) 61)
      have e2 := e1.alloc (.cells #[.pointer (some ⟨wr.heap.size, 0, none⟩)] 62)
      have HE2 := Lib.hid e2
      have HRN := Lib.hid ((Row.new wr 61 (newCells (some ⟨b, 0, none⟩) k mode j 0)).alloc (.cells #[.pointer (some ⟨wr.heap.size, 0, none⟩)] 62))
      have HPN := Lib.hid (Row.new2 wr (.cells (newCells (some ⟨b, 0, none⟩) k mode j 0) 61) 62 #[.pointer (some ⟨wr.heap.size, 0, none⟩)])
      have HBASE := Lib.hid (Nat.le_trans HI.out.made.only.size e2.size)
      clear e1 e2
      unfold newCells at HE2 HRN HPN HBASE
      go_wp2_with (at_builtin; refine wp_appP rfl (.tmp 43) (.tmp 51) rfl w.heap.size _ bs (by rfl) (own_only HOW.out HE2.out (fun _ _ => id)) (wr.heap.size + 1) wr.heap.size (by rfl) HPN.out (by have := HLN.out; omega) HBASE.out ?_)
      intro v' w5 hown5 hO5
      obtain ⟨A8, n8, c8, rfl⟩ := ownP_form hown5
      clear cx
      have HX5 := Lib.hid ((HX.out.only HE2.out id).only hO5 (fun e => by
        obtain ⟨cur, hc⟩ := ownP_tag HOW.out e
        exact row_ne HX.out hc (by decide) rfl))
      have HFAR := Lib.hid (show ∀ (g : Nat) (t : TypeId) (cs : Array Value), Row wr g t cs → t ≠ 62 → Row w5 g t cs from fun g t cs hr ht => (hr.only HE2.out id).only hO5 (fun e => by
        obtain ⟨cur, hc⟩ := ownP_tag HOW.out e
        exact row_ne hr hc ht rfl))
      have HRN5 := Lib.hid (HRN.out.only hO5 (fun e => by
        have := (World.ownsRow.lt HOW.out _ e).2
        omega))
      have HM5 : Hid (Made w b A' c' (pqXs k b0) w5) := Lib.hid ⟨(HI.out.made.mem.only HE2.out id (fun _ _ => id)).only hO5 (fun e => by
          obtain ⟨cur, hc⟩ := ownP_tag HOW.out e
          exact row_ne HI.out.made.mem.hdr hc (by decide) rfl) (fun i hi e => by
          obtain ⟨cur, hc⟩ := ownP_tag HOW.out e
          exact memo_not (Memo.of HI.out.made.mem) hc (by decide) (by decide) (.inr hi)), HI.out.made.new, (HI.out.made.only.trans HE2.out).step hO5 (fun i hi e => by
          have := (World.ownsRow.lt HOW.out _ e).1
          omega)⟩
      have HOW5 := Lib.hid hown5
      have HWS := Lib.hid (show wr.heap.size < w5.heap.size from by
        have h1 := hO5.size
        have h2 : wr.heap.size < ((wr.alloc (.cells #[.pointer (some ⟨b, 0, none⟩), .int .i64 k, .int .i64 mode, .int .i64 j, .int .i64 0, .int .i64 0, .int .u32 0, .int .u32 0, .int .i64 0, .bool false, .int .i64 0, .int .i64 0, .bool false, .int .i64 0, .int .i64 0, .int .i64 0, .int .u32 0, .int .u32 0, .int .u32 0, .slice none 0 0] 61)).alloc (.cells #[.pointer (some ⟨wr.heap.size, 0, none⟩)] 62)).heap.size := by simp; omega
        omega)
      have y0 : w5.cell? ⟨X, 0, none⟩ = some (.slice A9 n9 c9) := HX5.out.cell_ (i := 0) rfl
      have yf : w5.frozen? ⟨X, 0, none⟩ = false := HX5.out.frozen 0
      clear hown5 hO5
      go_wp2
      clear y0 yf
      have HO6 := Lib.hid ((Only.refl (· = X) w5).setCell (p := ⟨X, 0, none⟩) (.inr rfl) (.slice A8 n8 c8))
      have hI' : BegunI w X GH b A' c' k mode (pqXs k b0) (j + 1) (w5.setCell ⟨X, 0, none⟩ (.slice A8 n8 c8)) := by
        refine ⟨⟨.slice A8 n8 c8, bs ++ [wr.heap.size], HX5.out.set 0 (.slice A8 n8 c8), own_only HOW5.out HO6.out (fun i hi e => ?_), by rw [List.length_append, HLN.out]; rfl, fun i b' hb' => ?_, fun i i' b' h1 h2 => ?_⟩, ?_, ⟨HM5.out.mem.only HO6.out (fun e => row_ne HM5.out.mem.hdr HX5.out (by decide) e) (fun i hi e => memo_not (Memo.of HM5.out.mem) HX5.out (by decide) (by decide) (by subst e; exact .inr hi)), HM5.out.new, HM5.out.only.setCell (.inl HI.out.xb) _⟩, HI.out.gh, HI.out.xb⟩
        · obtain ⟨cur, hc⟩ := ownP_tag HOW5.out hi
          exact row_ne hc HX5.out (by decide) e
        · by_cases hi : i < bs.length
          · rw [List.getElem?_append_left hi] at hb'
            obtain ⟨hr, hb0⟩ := HRU.out i b' hb'
            exact ⟨(HFAR.out _ _ _ hr (by decide)).only HO6.out (fun e => row_ne (HFAR.out _ _ _ hr (by decide)) HX5.out (by decide) e), hb0⟩
          · rw [List.getElem?_append_right (by omega)] at hb'
            have hij : i = bs.length := by
              by_cases e : i = bs.length
              · exact e
              · rw [List.getElem?_eq_none (by simp; omega)] at hb'
                cases hb'
            subst hij
            simp only [Nat.sub_self, List.getElem?_cons_zero, Option.some.injEq] at hb'
            subst hb'
            rw [HLN.out]
            exact ⟨HRN5.out.only HO6.out (fun e => row_ne HRN5.out HX5.out (by decide) e), HI.out.made.only.size⟩
        · have hlt1 : ∀ (q : Nat), bs[q]? = some b' → b' < wr.heap.size := fun q hq => (HRU.out q b' hq).1.lt
          by_cases hi : i < bs.length
          · by_cases hi' : i' < bs.length
            · rw [List.getElem?_append_left hi] at h1
              rw [List.getElem?_append_left hi'] at h2
              exact HIN.out i i' b' h1 h2
            · rw [List.getElem?_append_left hi] at h1
              have := hlt1 i h1
              rw [List.getElem?_append_right (by omega)] at h2
              have := List.mem_of_getElem? h2
              simp only [List.mem_cons, List.not_mem_nil, or_false] at this
              omega
          · by_cases hi' : i' < bs.length
            · rw [List.getElem?_append_left hi'] at h2
              have := hlt1 i' h2
              rw [List.getElem?_append_right (by omega)] at h1
              have := List.mem_of_getElem? h1
              simp only [List.mem_cons, List.not_mem_nil, or_false] at this
              omega
            · have l1 := (List.getElem?_eq_some_iff.1 h1).1
              have l2 := (List.getElem?_eq_some_iff.1 h2).1
              rw [List.length_append] at l1 l2
              simp only [List.length_cons, List.length_nil] at l1 l2
              omega
        · obtain ⟨cs, hc, hz⟩ := HI.out.h
          exact ⟨cs, (HFAR.out _ _ _ hc (by decide)).only HO6.out (fun e => row_ne (HFAR.out _ _ _ hc (by decide)) HX5.out (by decide) e), hz⟩
      go_roundw
      case rel => exact ⟨j + 1, by omega, by go_num, hI'⟩
      case measure => simp [intOf]; omega
    · obtain rfl : j = k := by omega
      clear hx hown
      go_wp2
      go_ret
      rcases HOW.out.2 with ⟨_, hn⟩ | ⟨g, cap, cur, rfl, hb, hg, hc, hm, hsz, ht⟩
      · have := HLN.out; have := HK.out; omega
      · have hcur : ∀ i, i < j → cur[i]? = some (.pointer (some ⟨bs.getD i 0, 0, none⟩)) := fun i hi => by
          have e1 : (cur.toList.take (bs.length * 1))[i]? = (bs.map fun b => Value.pointer (some ⟨b, 0, none⟩))[i]? := by rw [ht]
          have hib : i < bs.length := by rw [HLN.out]; exact hi
          rw [List.getElem?_take, if_pos (by omega), List.getElem?_map, List.getElem?_eq_getElem hib] at e1
          simp only [Option.map_some, Array.getElem?_toList] at e1
          rw [e1]
          simp [List.getD, List.getElem?_eq_getElem hib]
        have hget : ∀ i, i < j → bs[i]? = some (bs.getD i 0) := fun i hi => by
          have hib : i < bs.length := by rw [HLN.out]; exact hi
          simp [List.getD, List.getElem?_eq_getElem hib]
        have hX := HX.out
        rw [HLN.out] at hX
        refine ⟨X, g, GH, fun i => bs.getD i 0, some ⟨b, 0, none⟩, A', c', rfl, ⟨⟨cap, hX⟩, ⟨cur, hg, hcur⟩, HI.out.h, fun i hi => ⟨.slice none 0 0, (HRU.out i _ (hget i hi)).1, Memo.of HI.out.made.mem⟩, fun i i' hi hi' e => ?_, Memo.of HI.out.made.mem, (pq_words HBD.out), HI.out.made.only, ?_, fun x hx => by simp at hx, fun x hx => by simp at hx, fun i hi => ⟨⟨Int.le_refl _, by show (0 : Int) < _; decide⟩, ⟨Int.le_refl _, by show (0 : Int) < _; decide⟩⟩⟩⟩
        · have h1 := hget i hi
          have h2 := hget i' hi'
          rw [← e] at h2
          exact HIN.out i i' _ h1 h2
        · rintro q (rfl | h | ⟨i, hi, rfl⟩)
          · exact HI.out.gh
          · exact HI.out.made.new q h
          · exact (HRU.out i _ (hget i hi)).2
end Go.Proofs.YtocdbeonogfopaaGreat
set_option linter.unusedVariables false
set_option linter.unusedSimpArgs false
namespace Go.Proofs.YtocdbeonogfopaaGreat
inductive Rd | no | waits (saw : Int) | reads
  deriving DecidableEq
inductive Wr | no | waits | turn | comes | writes | left | last
  deriving DecidableEq
def Rd.n : Rd → Nat | .no => 0 | _ => 1
def Wr.n : Wr → Nat | .no => 0 | _ => 1
def Wr.act : Wr → Bool | .no => false | .waits => false | _ => true
def Wr.pres : Wr → Bool | .comes => true | .writes => true | _ => false
theorem Wr.act_n {x : Wr} (h : x.act = true) : x.n = 1 := by cases x <;> first | rfl | cases h
theorem Wr.pres_act {x : Wr} (h : x.pres = true) : x.act = true := by cases x <;> first | rfl | cases h
structure PS where
  rd : Nat → Rd
  wr : Nat → Wr
  tk : Nat → Nat
  I : Nat
  O : Nat
  N : Nat
  T : Nat
  β : Int
  φ : Int
  a : Nat
def old (β : Int) : Rd → Nat | .no => 0 | .waits saw => if saw = β then 0 else 1 | .reads => 1
theorem old_no (β : Int) : old β .no = 0 := rfl
theorem old_w (β v : Int) : old β (.waits v) = if v = β then 0 else 1 := rfl
theorem old_r (β : Int) : old β .reads = 1 := rfl
theorem old_le (β : Int) (x : Rd) : old β x ≤ x.n := by
  cases x
  · exact Nat.le_refl _
  · unfold old Rd.n; dsimp only; split <;> omega
  · exact Nat.le_refl _
structure PInv (k : Nat) (s : PS) : Prop where
  si : s.O + sumN (fun i => (s.rd i).n) k = s.I
  st : s.T + sumN (fun i => (s.wr i).n) k = s.N
  ph : s.φ = 0 ∨ s.φ = 1
  lo : ∀ i, i < k → (s.wr i).n = 1 → s.T ≤ s.tk i ∧ s.tk i < s.N
  ne : ∀ i j, i < k → j < k → (s.wr i).n = 1 → (s.wr j).n = 1 → s.tk i = s.tk j → i = j
  act : ∀ i, i < k → (s.wr i).act = true → s.tk i = s.T
  bits : ∀ i, i < k → (s.wr i).pres = true → s.β = 2 + s.φ ∧ s.O + sumN (fun j => old s.β (s.rd j)) k = s.a
  none : (∀ i, i < k → (s.wr i).pres = false) → s.β = 0
  saw : ∀ i v, i < k → s.rd i = .waits v → v = 2 ∨ v = 3
  next : s.β = 0 → ∀ i v, i < k → s.rd i = .waits v → if ∃ j, j < k ∧ s.wr j = .left then v = 2 + s.φ else v = 3 - s.φ
  alone : ∀ i, i < k → s.wr i = .writes → ∀ j, j < k → j ≠ i → old s.β (s.rd j) = 0
  own : ∀ i v, i < k → (s.wr i).act = true → s.rd i ≠ .waits v
section
variable {k : Nat} {s : PS} {t : Nat}
theorem PInv.acts (h : PInv k s) {i j : Nat} (hi : i < k) (hj : j < k) (gi : (s.wr i).act = true) (gj : (s.wr j).act = true) : i = j :=
  h.ne i j hi hj (Wr.act_n gi) (Wr.act_n gj) ((h.act i hi gi).trans (h.act j hj gj).symm)
theorem PInv.present (h : PInv k s) (hb : s.β ≠ 0) : ∃ i, i < k ∧ (s.wr i).pres = true := by
  by_cases e : ∃ i, i < k ∧ (s.wr i).pres = true
  · exact e
  · exact absurd (h.none fun i hi => by cases e2 : (s.wr i).pres <;> first | rfl | exact absurd ⟨i, hi, e2⟩ e) hb
def PS.setR (s : PS) (t : Nat) (x : Rd) (I O : Nat) : PS := { s with rd := upd s.rd t x, I := I, O := O }
def PS.setW (s : PS) (t : Nat) (y : Wr) (T : Nat) (N T' : Nat) (β φ : Int) (a : Nat) : PS := { s with wr := upd s.wr t y, tk := upd s.tk t T, N := N, T := T', β := β, φ := φ, a := a }
theorem PInv.come (h : PInv k s) (ht : t < k) (hr : s.rd t = .no) (hw : (s.wr t).act = false ∨ s.β = 0) : PInv k (s.setR t (if s.β = 0 then .reads else .waits s.β) (s.I + 1) s.O) := by
  have hn : (if s.β = 0 then Rd.reads else .waits s.β).n = 1 := by split <;> rfl
  have su := sumN_upd (f := fun i => (s.rd i).n) (g := fun i => (upd s.rd t (if s.β = 0 then .reads else .waits s.β) i).n) (t := t) (k := k) ht (fun i _ hi => by simp only [upd_other _ _ hi])
  simp only [upd_same, hr, hn] at su
  have e0 : Rd.no.n = 0 := rfl
  have hsi := h.si
  have keep : ∀ i, i ≠ t → upd s.rd t (if s.β = 0 then .reads else .waits s.β) i = s.rd i := fun i hi => upd_other _ _ hi
  have at_ : upd s.rd t (if s.β = 0 then .reads else .waits s.β) t = if s.β = 0 then .reads else .waits s.β := upd_same _ _ _
  refine ⟨?_, h.st, h.ph, h.lo, h.ne, h.act, fun i hi hp => ?_, h.none, fun i v hi e => ?_, fun hb i v hi e => ?_, fun i hi hw2 j hj hn => ?_, fun i v hi ha => ?_⟩
  · show s.O + sumN (fun i => (upd s.rd t (if s.β = 0 then .reads else .waits s.β) i).n) k = s.I + 1
    omega
  · obtain ⟨b1, b2⟩ := h.bits i hi hp
    refine ⟨b1, ?_⟩
    show s.O + sumN (fun j => old s.β (upd s.rd t (if s.β = 0 then .reads else .waits s.β) j)) k = s.a
    have hb : s.β ≠ 0 := by have := h.ph; omega
    rw [if_neg hb]
    have so := sumN_upd (f := fun i => old s.β (s.rd i)) (g := fun i => old s.β (upd s.rd t (.waits s.β) i)) (t := t) (k := k) ht (fun i _ hi => by simp only [upd_other _ _ hi])
    simp only [upd_same, hr, old_no, old_w, if_true] at so
    show s.O + sumN (fun i => old s.β (upd s.rd t (.waits s.β) i)) k = s.a
    omega
  · by_cases e2 : i = t
    · subst e2
      have e3 : (if s.β = 0 then Rd.reads else .waits s.β) = .waits v := (at_.symm.trans e)
      by_cases hb : s.β = 0
      · rw [if_pos hb] at e3; cases e3
      · rw [if_neg hb] at e3
        obtain ⟨j, hj, hp⟩ := h.present hb
        have := (h.bits j hj hp).1
        have := h.ph
        cases e3
        omega
    · exact h.saw i v hi ((keep i e2).symm.trans e)
  · by_cases e2 : i = t
    · subst e2
      have hb' : s.β = 0 := hb
      have e3 : (if s.β = 0 then Rd.reads else .waits s.β) = .waits v := (at_.symm.trans e)
      rw [if_pos hb'] at e3; cases e3
    · exact h.next hb i v hi ((keep i e2).symm.trans e)
  · show old s.β (upd s.rd t (if s.β = 0 then .reads else .waits s.β) j) = 0
    by_cases e2 : j = t
    · subst e2
      rw [upd_same]
      have hb : s.β ≠ 0 := by
        have := (h.bits i hi (by rw [show s.wr i = .writes from hw2]; rfl)).1
        have := h.ph
        omega
      rw [if_neg hb]
      rw [old_w, if_pos rfl]
    · rw [upd_other _ _ e2]; exact h.alone i hi hw2 j hj hn
  · by_cases e2 : i = t
    · subst e2
      have : (s.wr i).act = true := ha
      show upd s.rd i _ i ≠ _
      rw [upd_same]
      rcases hw with hw | hw
      · rw [hw] at this; cases this
      · rw [if_pos hw]; intro e; cases e
    · show upd s.rd t _ i ≠ _
      rw [upd_other _ _ e2]; exact h.own i v hi ha
theorem PInv.letIn (h : PInv k s) (ht : t < k) {v : Int} (hr : s.rd t = .waits v) (hv : v ≠ s.β) : PInv k (s.setR t .reads s.I s.O) := by
  have su := sumN_upd (f := fun i => (s.rd i).n) (g := fun i => (upd s.rd t .reads i).n) (t := t) (k := k) ht (fun i _ hi => by simp only [upd_other _ _ hi])
  simp only [upd_same, hr] at su
  have e0 : (Rd.waits v).n = 1 := rfl
  have e1 : Rd.reads.n = 1 := rfl
  have so := sumN_upd (f := fun i => old s.β (s.rd i)) (g := fun i => old s.β (upd s.rd t .reads i)) (t := t) (k := k) ht (fun i _ hi => by simp only [upd_other _ _ hi])
  simp only [upd_same, hr] at so
  have o0 : old s.β (.waits v) = 1 := by rw [old_w, if_neg hv]
  have o1 : old s.β .reads = 1 := rfl
  have hsi := h.si
  refine ⟨?_, h.st, h.ph, h.lo, h.ne, h.act, fun i hi hp => ?_, h.none, fun i v hi e => ?_, fun hb i v hi e => ?_, fun i hi hw2 j hj hn => ?_, fun i v hi ha => ?_⟩
  · show s.O + sumN (fun i => (upd s.rd t .reads i).n) k = s.I
    omega
  · obtain ⟨b1, b2⟩ := h.bits i hi hp
    refine ⟨b1, ?_⟩
    show s.O + sumN (fun j => old s.β (upd s.rd t .reads j)) k = s.a
    omega
  · by_cases e2 : i = t
    · subst e2; rw [show (s.setR i .reads s.I s.O).rd i = .reads from upd_same _ _ _] at e; cases e
    · exact h.saw i v hi ((upd_other s.rd .reads e2).symm.trans e)
  · by_cases e2 : i = t
    · subst e2; rw [show (s.setR i .reads s.I s.O).rd i = .reads from upd_same _ _ _] at e; cases e
    · exact h.next hb i v hi ((upd_other s.rd .reads e2).symm.trans e)
  · show old s.β (upd s.rd t .reads j) = 0
    by_cases e2 : j = t
    · subst e2
      have := h.alone i hi hw2 j hj hn
      rw [hr, o0] at this; cases this
    · rw [upd_other _ _ e2]; exact h.alone i hi hw2 j hj hn
  · show upd s.rd t _ i ≠ _
    by_cases e2 : i = t
    · subst e2; rw [upd_same]; intro e; cases e
    · rw [upd_other _ _ e2]; exact h.own i v hi ha
theorem PInv.depart (h : PInv k s) (ht : t < k) (hr : s.rd t = .reads) : PInv k (s.setR t .no s.I (s.O + 1)) := by
  have su := sumN_upd (f := fun i => (s.rd i).n) (g := fun i => (upd s.rd t .no i).n) (t := t) (k := k) ht (fun i _ hi => by simp only [upd_other _ _ hi])
  simp only [upd_same, hr] at su
  have e0 : Rd.reads.n = 1 := rfl
  have e1 : Rd.no.n = 0 := rfl
  have so := sumN_upd (f := fun i => old s.β (s.rd i)) (g := fun i => old s.β (upd s.rd t .no i)) (t := t) (k := k) ht (fun i _ hi => by simp only [upd_other _ _ hi])
  simp only [upd_same, hr] at so
  have o0 : old s.β .reads = 1 := rfl
  have o1 : old s.β .no = 0 := rfl
  have hsi := h.si
  refine ⟨?_, h.st, h.ph, h.lo, h.ne, h.act, fun i hi hp => ?_, h.none, fun i v hi e => ?_, fun hb i v hi e => ?_, fun i hi hw2 j hj hn => ?_, fun i v hi ha => ?_⟩
  · show s.O + 1 + sumN (fun i => (upd s.rd t .no i).n) k = s.I
    omega
  · obtain ⟨b1, b2⟩ := h.bits i hi hp
    refine ⟨b1, ?_⟩
    show s.O + 1 + sumN (fun j => old s.β (upd s.rd t .no j)) k = s.a
    omega
  · by_cases e2 : i = t
    · subst e2; rw [show (s.setR i .no s.I (s.O + 1)).rd i = .no from upd_same _ _ _] at e; cases e
    · exact h.saw i v hi ((upd_other s.rd .no e2).symm.trans e)
  · by_cases e2 : i = t
    · subst e2; rw [show (s.setR i .no s.I (s.O + 1)).rd i = .no from upd_same _ _ _] at e; cases e
    · exact h.next hb i v hi ((upd_other s.rd .no e2).symm.trans e)
  · show old s.β (upd s.rd t .no j) = 0
    by_cases e2 : j = t
    · subst e2; rw [upd_same]; rfl
    · rw [upd_other _ _ e2]; exact h.alone i hi hw2 j hj hn
  · show upd s.rd t _ i ≠ _
    by_cases e2 : i = t
    · subst e2; rw [upd_same]; intro e; cases e
    · rw [upd_other _ _ e2]; exact h.own i v hi ha
theorem PInv.others (h : PInv k s) (ht : t < k) (ha : (s.wr t).act = true) (i : Nat) (hi : i < k) (hn : i ≠ t) : (s.wr i).act = false := by
  cases e : (s.wr i).act
  · rfl
  · exact absurd (h.acts hi ht e ha) hn
theorem pres_of_act {x : Wr} (h : x.act = false) : x.pres = false := by cases x <;> first | rfl | cases h
theorem act_no {x : Wr} (h : x.act = false) : x ≠ .left ∧ x ≠ .writes ∧ x ≠ .comes := by
  refine ⟨?_, ?_, ?_⟩ <;> (intro e; subst e; cases h)
theorem PInv.relabel (h : PInv k s) (ht : t < k) {y : Wr} {β φ : Int} {a : Nat} (hn : (s.wr t).n = 1) (hy : y.n = 1) (hact : y.act = true → s.tk t = s.T) (hown : y.act = true → ∀ v, s.rd t ≠ .waits v) (hph : φ = 0 ∨ φ = 1)
    (hb : ∀ i, i < k → (upd s.wr t y i).pres = true → β = 2 + φ ∧ s.O + sumN (fun j => old β (s.rd j)) k = a) (hnone : (∀ i, i < k → (upd s.wr t y i).pres = false) → β = 0)
    (hnext : β = 0 → ∀ i v, i < k → s.rd i = .waits v → if ∃ j, j < k ∧ upd s.wr t y j = .left then v = 2 + φ else v = 3 - φ) (halone : ∀ i, i < k → upd s.wr t y i = .writes → ∀ j, j < k → j ≠ i → old β (s.rd j) = 0) :
    PInv k (s.setW t y (s.tk t) s.N s.T β φ a) := by
  have su := sumN_upd (f := fun i => (s.wr i).n) (g := fun i => (upd s.wr t y i).n) (t := t) (k := k) ht (fun i _ hi => by simp only [upd_other _ _ hi])
  simp only [upd_same, hn, hy] at su
  have hst := h.st
  have htk : upd s.tk t (s.tk t) = s.tk := by
    funext i; unfold upd; split
    · rename_i e; rw [e]
    · rfl
  have hnn : ∀ i, i < k → (upd s.wr t y i).n = (s.wr i).n := fun i _ => by
    by_cases e : i = t
    · subst e; rw [upd_same, hy, hn]
    · rw [upd_other _ _ e]
  unfold PS.setW
  rw [htk]
  refine ⟨h.si, ?_, hph, fun i hi e => ?_, fun i j hi hj ei ej => ?_, fun i hi e => ?_, hb, hnone, h.saw, hnext, halone, fun i v hi e => ?_⟩
  · show s.T + sumN (fun i => (upd s.wr t y i).n) k = s.N
    omega
  · exact h.lo i hi ((hnn i hi).symm.trans e)
  · exact h.ne i j hi hj ((hnn i hi).symm.trans ei) ((hnn j hj).symm.trans ej)
  · by_cases e2 : i = t
    · subst e2
      have e' : y.act = true := by rw [← upd_same s.wr i y]; exact e
      exact hact e'
    · exact h.act i hi (by rw [← upd_other s.wr y e2]; exact e)
  · by_cases e2 : i = t
    · subst e2
      have e' : y.act = true := by rw [← upd_same s.wr i y]; exact e
      exact hown e' v
    · exact h.own i v hi (by rw [← upd_other s.wr y e2]; exact e)
theorem PInv.turn (h : PInv k s) (ht : t < k) (hw : s.wr t = .waits) (he : s.tk t = s.T) (hr : ∀ v, s.rd t ≠ .waits v) : PInv k (s.setW t .turn (s.tk t) s.N s.T s.β s.φ s.a) := by
  have hp : ∀ i, i < k → (upd s.wr t .turn i).pres = (s.wr i).pres := fun i _ => by
    by_cases e : i = t
    · subst e; rw [upd_same, hw]; rfl
    · rw [upd_other _ _ e]
  refine h.relabel ht (by rw [hw]; rfl) rfl (fun _ => he) (fun _ => hr) h.ph (fun i hi e => h.bits i hi ((hp i hi).symm.trans e)) (fun e => h.none fun i hi => (hp i hi).symm.trans (e i hi)) (fun hb i v hi e => ?_) (fun i hi e => ?_)
  · have := h.next hb i v hi e
    have hl : (∃ j, j < k ∧ upd s.wr t .turn j = .left) ↔ (∃ j, j < k ∧ s.wr j = .left) := by
      constructor
      · rintro ⟨j, hj, e⟩
        by_cases e2 : j = t
        · subst e2; rw [upd_same] at e; cases e
        · rw [upd_other _ _ e2] at e; exact ⟨j, hj, e⟩
      · rintro ⟨j, hj, e⟩
        have e2 : j ≠ t := fun e2 => by subst e2; rw [hw] at e; cases e
        exact ⟨j, hj, by rw [upd_other _ _ e2]; exact e⟩
    by_cases e2 : ∃ j, j < k ∧ s.wr j = .left
    · rw [if_pos e2] at this; rw [if_pos (hl.2 e2)]; exact this
    · rw [if_neg e2] at this; rw [if_neg (fun e3 => e2 (hl.1 e3))]; exact this
  · by_cases e2 : i = t
    · subst e2; rw [upd_same] at e; cases e
    · rw [upd_other _ _ e2] at e; exact h.alone i hi e
theorem PInv.free (h : PInv k s) (ht : t < k) (ha : (s.wr t).act = true) (hp : (s.wr t).pres = false) : s.β = 0 := h.none fun i hi => by
  by_cases e : i = t
  · subst e; exact hp
  · exact pres_of_act (h.others ht ha i hi e)
theorem PInv.lefts (h : PInv k s) (ht : t < k) (ha : (s.wr t).act = true) : (∃ j, j < k ∧ s.wr j = .left) ↔ s.wr t = .left := by
  constructor
  · rintro ⟨j, hj, e⟩
    by_cases e2 : j = t
    · subst e2; exact e
    · exact absurd e (act_no (h.others ht ha j hj e2)).1
  · exact fun e => ⟨t, ht, e⟩
theorem lefts_upd {w : Nat → Wr} {y : Wr} (ho : ∀ i, i < k → i ≠ t → (w i).act = false) (ht : t < k) : (∃ j, j < k ∧ upd w t y j = .left) ↔ y = .left := by
  constructor
  · rintro ⟨j, hj, e⟩
    by_cases e2 : j = t
    · subst e2; rw [upd_same] at e; exact e
    · rw [upd_other _ _ e2] at e
      exact absurd e (act_no (ho j hj e2)).1
  · exact fun e => ⟨t, ht, by rw [upd_same]; exact e⟩
theorem PInv.appear (h : PInv k s) (ht : t < k) (hw : s.wr t = .turn) : PInv k (s.setW t .comes (s.tk t) s.N s.T (2 + s.φ) s.φ s.I) := by
  have ha : (s.wr t).act = true := by rw [hw]; rfl
  have ho := h.others ht ha
  have hb0 := h.free ht ha (by rw [hw]; rfl)
  have hph := h.ph
  have hl : ¬ ∃ j, j < k ∧ s.wr j = .left := fun e => by rw [(h.lefts ht ha).1 e] at hw; cases hw
  refine h.relabel ht (Wr.act_n ha) rfl (fun _ => h.act t ht ha) (fun _ v => h.own t v ht ha) h.ph (fun i hi e => ⟨rfl, ?_⟩) (fun e => ?_) (fun hb => by omega) (fun i hi e => ?_)
  · rw [← h.si]
    congr 1
    refine sumN_congr fun j hj => ?_
    cases hr : s.rd j with
    | no => rfl
    | reads => rfl
    | waits v =>
      have hv := h.next hb0 j v hj hr
      rw [if_neg hl] at hv
      rw [old_w, if_neg (by omega)]; rfl
  · have := e t ht
    rw [upd_same] at this; cases this
  · by_cases e2 : i = t
    · subst e2; rw [upd_same] at e; cases e
    · rw [upd_other _ _ e2] at e
      exact absurd e (act_no (ho i hi e2)).2.1
theorem PInv.enter (h : PInv k s) (ht : t < k) (hw : s.wr t = .comes) (he : s.O + old s.β (s.rd t) = s.a) : PInv k (s.setW t .writes (s.tk t) s.N s.T s.β s.φ s.a) := by
  have ha : (s.wr t).act = true := by rw [hw]; rfl
  have ho := h.others ht ha
  obtain ⟨b1, b2⟩ := h.bits t ht (by rw [hw]; rfl)
  have hph := h.ph
  refine h.relabel ht (Wr.act_n ha) rfl (fun _ => h.act t ht ha) (fun _ v => h.own t v ht ha) h.ph (fun i hi e => ⟨b1, b2⟩) (fun e => ?_) (fun hb => by omega) (fun i hi e j hj hn => ?_)
  · have := e t ht
    rw [upd_same] at this; cases this
  · have e2 : i = t := by
      by_cases e2 : i = t
      · exact e2
      · rw [upd_other _ _ e2] at e
        exact absurd e (act_no (ho i hi e2)).2.1
    subst e2
    have hu := sumN_upd (f := fun j => old s.β (s.rd j)) (g := upd (fun j => old s.β (s.rd j)) i 0) (t := i) (k := k) ht (fun j _ hj => upd_other _ _ hj)
    rw [upd_same] at hu
    have hj2 := sumN_at (f := upd (fun j => old s.β (s.rd j)) i 0) hj
    rw [upd_other _ _ hn] at hj2
    omega
theorem PInv.vanish (h : PInv k s) (ht : t < k) (hw : s.wr t = .writes) (hr : s.rd t = .no) : PInv k (s.setW t .left (s.tk t) s.N s.T 0 s.φ s.a) := by
  have ha : (s.wr t).act = true := by rw [hw]; rfl
  have ho := h.others ht ha
  obtain ⟨b1, b2⟩ := h.bits t ht (by rw [hw]; rfl)
  refine h.relabel ht (Wr.act_n ha) rfl (fun _ => h.act t ht ha) (fun _ v => h.own t v ht ha) h.ph (fun i hi e => ?_) (fun _ => rfl) (fun _ i v hi e => ?_) (fun i hi e => ?_)
  · by_cases e2 : i = t
    · subst e2; rw [upd_same] at e; cases e
    · rw [upd_other _ _ e2, pres_of_act (ho i hi e2)] at e; cases e
  · rw [if_pos ((lefts_upd ho ht).2 rfl)]
    have hne : i ≠ t := fun e2 => by subst e2; rw [hr] at e; cases e
    have := h.alone t ht hw i hi hne
    rw [e, old_w] at this
    by_cases e2 : v = s.β
    · omega
    · rw [if_neg e2] at this; cases this
  · by_cases e2 : i = t
    · subst e2; rw [upd_same] at e; cases e
    · rw [upd_other _ _ e2] at e
      exact absurd e (act_no (ho i hi e2)).2.1
theorem PInv.count (h : PInv k s) (ht : t < k) {φ : Int} (hw : (s.wr t = .left ∧ φ = 1 - s.φ) ∨ (s.wr t = .turn ∧ φ = s.φ)) : PInv k (s.setW t .last (s.tk t) s.N s.T s.β φ s.a) := by
  have ha : (s.wr t).act = true := by rcases hw with ⟨e, _⟩ | ⟨e, _⟩ <;> rw [e] <;> rfl
  have hp : (s.wr t).pres = false := by rcases hw with ⟨e, _⟩ | ⟨e, _⟩ <;> rw [e] <;> rfl
  have ho := h.others ht ha
  have hb0 := h.free ht ha hp
  have hph := h.ph
  refine h.relabel ht (Wr.act_n ha) rfl (fun _ => h.act t ht ha) (fun _ v => h.own t v ht ha) (by omega) (fun i hi e => ?_) (fun _ => hb0) (fun _ i v hi e => ?_) (fun i hi e => ?_)
  · by_cases e2 : i = t
    · subst e2; rw [upd_same] at e; cases e
    · rw [upd_other _ _ e2, pres_of_act (ho i hi e2)] at e; cases e
  · rw [if_neg (fun e2 => by have := (lefts_upd ho ht).1 e2; cases this)]
    have := h.next hb0 i v hi e
    rcases hw with ⟨e2, e3⟩ | ⟨e2, e3⟩
    · rw [if_pos ((h.lefts ht ha).2 e2)] at this; omega
    · rw [if_neg (fun e4 => by rw [(h.lefts ht ha).1 e4] at e2; cases e2)] at this; omega
  · by_cases e2 : i = t
    · subst e2; rw [upd_same] at e; cases e
    · rw [upd_other _ _ e2] at e
      exact absurd e (act_no (ho i hi e2)).2.1
theorem PInv.draw (h : PInv k s) (ht : t < k) (hw : s.wr t = .no) {y : Wr} (hy : y = .waits ∨ (y = .turn ∧ s.N = s.T ∧ ∀ v, s.rd t ≠ .waits v)) : PInv k (s.setW t y s.N (s.N + 1) s.T s.β s.φ s.a) := by
  have hyn : y.n = 1 := by rcases hy with e | ⟨e, _⟩ <;> rw [e] <;> rfl
  have hyp : y.pres = false := by rcases hy with e | ⟨e, _⟩ <;> rw [e] <;> rfl
  have hyl : y ≠ .left := by rcases hy with e | ⟨e, _⟩ <;> rw [e] <;> intro e2 <;> cases e2
  have hyw : y ≠ .writes := by rcases hy with e | ⟨e, _⟩ <;> rw [e] <;> intro e2 <;> cases e2
  have su := sumN_upd (f := fun i => (s.wr i).n) (g := fun i => (upd s.wr t y i).n) (t := t) (k := k) ht (fun i _ hi => by simp only [upd_other _ _ hi])
  have e0 : Wr.no.n = 0 := rfl
  simp only [upd_same, hw, hyn, e0] at su
  have hst := h.st
  have hp : ∀ i, i < k → (upd s.wr t y i).pres = (s.wr i).pres := fun i _ => by
    by_cases e : i = t
    · subst e; rw [upd_same, hyp, hw]; rfl
    · rw [upd_other _ _ e]
  refine ⟨h.si, ?_, h.ph, fun i hi e => ?_, fun i j hi hj ei ej e => ?_, fun i hi e => ?_, fun i hi e => h.bits i hi ((hp i hi).symm.trans e), fun e => h.none fun i hi => (hp i hi).symm.trans (e i hi), h.saw, fun hb i v hi e => ?_, fun i hi e => ?_, fun i v hi e => ?_⟩
  · show s.T + sumN (fun i => (upd s.wr t y i).n) k = s.N + 1
    omega
  · by_cases e2 : i = t
    · subst e2
      show s.T ≤ upd s.tk i s.N i ∧ upd s.tk i s.N i < s.N + 1
      rw [upd_same]; omega
    · show s.T ≤ upd s.tk t s.N i ∧ upd s.tk t s.N i < s.N + 1
      rw [upd_other _ _ e2]
      have := h.lo i hi (by rw [← upd_other s.wr y e2]; exact e)
      omega
  · have e' : upd s.tk t s.N i = upd s.tk t s.N j := e
    by_cases e1 : i = t
    · by_cases e2 : j = t
      · rw [e1, e2]
      · subst e1
        rw [upd_same, upd_other _ _ e2] at e'
        have := h.lo j hj (by rw [← upd_other s.wr y e2]; exact ej)
        omega
    · by_cases e2 : j = t
      · subst e2
        rw [upd_same, upd_other _ _ e1] at e'
        have := h.lo i hi (by rw [← upd_other s.wr y e1]; exact ei)
        omega
      · rw [upd_other _ _ e1, upd_other _ _ e2] at e'
        exact h.ne i j hi hj (by rw [← upd_other s.wr y e1]; exact ei) (by rw [← upd_other s.wr y e2]; exact ej) e'
  · by_cases e2 : i = t
    · subst e2
      have e' : y.act = true := by rw [← upd_same s.wr i y]; exact e
      show upd s.tk i s.N i = s.T
      rw [upd_same]
      rcases hy with e3 | ⟨_, e3, _⟩
      · rw [e3] at e'; cases e'
      · exact e3
    · show upd s.tk t s.N i = s.T
      rw [upd_other _ _ e2]
      exact h.act i hi (by rw [← upd_other s.wr y e2]; exact e)
  · have hl : (∃ j, j < k ∧ upd s.wr t y j = .left) ↔ (∃ j, j < k ∧ s.wr j = .left) := by
      constructor
      · rintro ⟨j, hj, e⟩
        by_cases e2 : j = t
        · subst e2; rw [upd_same] at e; exact absurd e hyl
        · rw [upd_other _ _ e2] at e; exact ⟨j, hj, e⟩
      · rintro ⟨j, hj, e5⟩
        have e2 : j ≠ t := fun e2 => by subst e2; rw [hw] at e5; cases e5
        exact ⟨j, hj, by rw [upd_other _ _ e2]; exact e5⟩
    have := h.next hb i v hi e
    show if ∃ j, j < k ∧ upd s.wr t y j = .left then v = 2 + s.φ else v = 3 - s.φ
    by_cases e2 : ∃ j, j < k ∧ s.wr j = .left
    · rw [if_pos e2] at this; rw [if_pos (hl.2 e2)]; exact this
    · rw [if_neg e2] at this; rw [if_neg (fun e3 => e2 (hl.1 e3))]; exact this
  · by_cases e2 : i = t
    · subst e2
      have e' : y = .writes := by rw [← upd_same s.wr i y]; exact e
      exact absurd e' hyw
    · exact h.alone i hi (by rw [← upd_other s.wr y e2]; exact e)
  · by_cases e2 : i = t
    · subst e2
      have e' : y.act = true := by rw [← upd_same s.wr i y]; exact e
      rcases hy with e3 | ⟨_, _, e3⟩
      · rw [e3] at e'; cases e'
      · exact e3 v
    · exact h.own i v hi (by rw [← upd_other s.wr y e2]; exact e)
theorem PInv.pass (h : PInv k s) (ht : t < k) (hw : s.wr t = .last) : PInv k (s.setW t .no 0 s.N (s.T + 1) s.β s.φ s.a) := by
  have ha : (s.wr t).act = true := by rw [hw]; rfl
  have ho := h.others ht ha
  have hb0 := h.free ht ha (by rw [hw]; rfl)
  have hT := h.act t ht ha
  have su := sumN_upd (f := fun i => (s.wr i).n) (g := fun i => (upd s.wr t .no i).n) (t := t) (k := k) ht (fun i _ hi => by simp only [upd_other _ _ hi])
  have e0 : Wr.no.n = 0 := rfl
  have e1 : Wr.last.n = 1 := rfl
  simp only [upd_same, hw, e0, e1] at su
  have hst := h.st
  have nact : ∀ i, i < k → (upd s.wr t .no i).act = false := fun i hi => by
    by_cases e : i = t
    · subst e; rw [upd_same]; rfl
    · rw [upd_other _ _ e]; exact ho i hi e
  refine ⟨h.si, ?_, h.ph, fun i hi e => ?_, fun i j hi hj ei ej e => ?_, fun i hi e => ?_, fun i hi e => ?_, fun _ => hb0, h.saw, fun hb i v hi e => ?_, fun i hi e => ?_, fun i v hi e => ?_⟩
  · show s.T + 1 + sumN (fun i => (upd s.wr t .no i).n) k = s.N
    omega
  · have e2 : i ≠ t := fun e2 => by
      subst e2
      have : (upd s.wr i .no i).n = 1 := e
      rw [upd_same] at this; cases this
    have e3 : (s.wr i).n = 1 := by rw [← upd_other s.wr .no e2]; exact e
    show s.T + 1 ≤ upd s.tk t 0 i ∧ upd s.tk t 0 i < s.N
    rw [upd_other _ _ e2]
    have := h.lo i hi e3
    have : s.tk i ≠ s.tk t := fun e4 => e2 (h.ne i t hi ht e3 (by rw [hw]; rfl) e4)
    omega
  · have c : ∀ q, q < k → (upd s.wr t .no q).n = 1 → q ≠ t := fun q _ e e2 => by
      subst e2; rw [upd_same] at e; cases e
    have c1 := c i hi ei
    have c2 := c j hj ej
    have e' : upd s.tk t 0 i = upd s.tk t 0 j := e
    rw [upd_other _ _ c1, upd_other _ _ c2] at e'
    exact h.ne i j hi hj (by rw [← upd_other s.wr .no c1]; exact ei) (by rw [← upd_other s.wr .no c2]; exact ej) e'
  · have : (upd s.wr t .no i).act = true := e
    rw [nact i hi] at this; cases this
  · have : (upd s.wr t .no i).pres = true := e
    rw [pres_of_act (nact i hi)] at this; cases this
  · have := h.next hb i v hi e
    rw [if_neg (fun e4 => by rw [(h.lefts ht ha).1 e4] at hw; cases hw)] at this
    rw [if_neg]
    · exact this
    · rintro ⟨j, hj, e2⟩
      exact absurd e2 (act_no (nact j hj)).1
  · have : upd s.wr t .no i = .writes := e
    exact absurd this (act_no (nact i hi)).2.1
  · have : (upd s.wr t .no i).act = true := e
    rw [nact i hi] at this; cases this
end
end Go.Proofs.YtocdbeonogfopaaGreat
set_option linter.unusedVariables false
set_option linter.unusedSimpArgs false
namespace Go.Proofs.YtocdbeonogfopaaGreat
structure NS where
  rd : Nat → Rd
  wr : Nat → Wr
  I : Nat
  O : Nat
  β : Int
  φ : Int
  a : Nat
structure NInv (k : Nat) (s : NS) : Prop where
  si : s.O + sumN (fun i => (s.rd i).n) k = s.I
  ph : s.φ = 0 ∨ s.φ = 1
  one : ∀ i j, i < k → j < k → (s.wr i).act = true → (s.wr j).act = true → i = j
  bits : ∀ i, i < k → (s.wr i).pres = true → s.β = 2 + s.φ ∧ s.O + sumN (fun j => old s.β (s.rd j)) k = s.a
  none : (∀ i, i < k → (s.wr i).pres = false) → s.β = 0
  saw : ∀ i v, i < k → s.rd i = .waits v → v = 2 ∨ v = 3
  next : s.β = 0 → ∀ i v, i < k → s.rd i = .waits v → if ∃ j, j < k ∧ s.wr j = .left then v = 2 + s.φ else v = 3 - s.φ
  alone : ∀ i, i < k → s.wr i = .writes → ∀ j, j < k → j ≠ i → old s.β (s.rd j) = 0
  own : ∀ i v, i < k → (s.wr i).act = true → s.rd i ≠ .waits v
  nw : ∀ i, i < k → s.wr i ≠ .waits
def NS.up (k : Nat) (s : NS) : PS := ⟨s.rd, s.wr, fun _ => 0, s.I, s.O, sumN (fun i => (s.wr i).n) k, 0, s.β, s.φ, s.a⟩
def PS.down (s : PS) : NS := ⟨s.rd, s.wr, s.I, s.O, s.β, s.φ, s.a⟩
section
variable {k : Nat} {s : NS} {t : Nat}
theorem act_of_n {x : Wr} (h : x.n = 1) (hw : x ≠ .waits) : x.act = true := by cases x <;> first | rfl | exact absurd rfl hw | (cases h; done)
theorem NInv.up (h : NInv k s) : PInv k (s.up k) := by
  refine ⟨h.si, Nat.zero_add _, h.ph, fun i hi e => ⟨Nat.zero_le _, ?_⟩, fun i j hi hj e1 e2 _ => h.one i j hi hj (act_of_n e1 (h.nw i hi)) (act_of_n e2 (h.nw j hj)), fun _ _ _ => rfl, h.bits, h.none, h.saw, h.next, h.alone, h.own⟩
  have h1 := sumN_at (f := fun i => (s.wr i).n) hi
  have h2 : (s.wr i).n = 1 := e
  show 0 < sumN (fun i => (s.wr i).n) k
  simp only [h2] at h1
  omega
theorem PInv.down {s : PS} (h : PInv k s) (hw : ∀ i, i < k → s.wr i ≠ .waits) : NInv k s.down := ⟨h.si, h.ph, fun i j hi hj e1 e2 => h.acts hi hj e1 e2, h.bits, h.none, h.saw, h.next, h.alone, h.own, hw⟩
def NS.setR (s : NS) (t : Nat) (x : Rd) (I O : Nat) : NS := { s with rd := upd s.rd t x, I := I, O := O }
def NS.setW (s : NS) (t : Nat) (y : Wr) (β φ : Int) (a : Nat) : NS := { s with wr := upd s.wr t y, β := β, φ := φ, a := a }
theorem nwu (h : NInv k s) (y : Wr) (hy : y ≠ .waits) : ∀ i, i < k → upd s.wr t y i ≠ .waits := fun i hi => by
  by_cases e : i = t
  · subst e; rw [upd_same]; exact hy
  · rw [upd_other _ _ e]; exact h.nw i hi
theorem NInv.others (h : NInv k s) (ht : t < k) (ha : (s.wr t).act = true) (i : Nat) (hi : i < k) (hn : i ≠ t) : (s.wr i).act = false := h.up.others ht ha i hi hn
theorem NInv.present (h : NInv k s) (hb : s.β ≠ 0) : ∃ i, i < k ∧ (s.wr i).pres = true := h.up.present hb
theorem NInv.free (h : NInv k s) (ht : t < k) (ha : (s.wr t).act = true) (hp : (s.wr t).pres = false) : s.β = 0 := h.up.free ht ha hp
theorem NInv.come (h : NInv k s) (ht : t < k) (hr : s.rd t = .no) (hw : (s.wr t).act = false ∨ s.β = 0) : NInv k (s.setR t (if s.β = 0 then .reads else .waits s.β) (s.I + 1) s.O) := (h.up.come ht hr hw).down h.nw
theorem NInv.letIn (h : NInv k s) (ht : t < k) {v : Int} (hr : s.rd t = .waits v) (hv : v ≠ s.β) : NInv k (s.setR t .reads s.I s.O) := (h.up.letIn ht hr hv).down h.nw
theorem NInv.depart (h : NInv k s) (ht : t < k) (hr : s.rd t = .reads) : NInv k (s.setR t .no s.I (s.O + 1)) := (h.up.depart ht hr).down h.nw
theorem NInv.start (h : NInv k s) (ht : t < k) (hw : s.wr t = .no) (hall : ∀ i, i < k → i ≠ t → (s.wr i).act = false) (hr : ∀ v, s.rd t ≠ .waits v) : NInv k (s.setW t .turn s.β s.φ s.a) := by
  have hz : sumN (fun i => (s.wr i).n) k = 0 := sumN_zero fun i hi => by
    have hx : (s.wr i).act = false := by
      by_cases e : i = t
      · subst e; rw [hw]; rfl
      · exact hall i hi e
    cases e : (s.wr i) <;> first | rfl | exact absurd e (h.nw i hi) | (rw [e] at hx; cases hx)
  exact (h.up.draw ht hw (y := .turn) (.inr ⟨rfl, hz, hr⟩)).down (nwu h .turn (by intro e; cases e))
theorem NInv.appear (h : NInv k s) (ht : t < k) (hw : s.wr t = .turn) : NInv k (s.setW t .comes (2 + s.φ) s.φ s.I) := (h.up.appear ht hw).down (nwu h .comes (by intro e; cases e))
theorem NInv.enter (h : NInv k s) (ht : t < k) (hw : s.wr t = .comes) (he : s.O + old s.β (s.rd t) = s.a) : NInv k (s.setW t .writes s.β s.φ s.a) := (h.up.enter ht hw he).down (nwu h .writes (by intro e; cases e))
theorem NInv.vanish (h : NInv k s) (ht : t < k) (hw : s.wr t = .writes) (hr : s.rd t = .no) : NInv k (s.setW t .left 0 s.φ s.a) := (h.up.vanish ht hw hr).down (nwu h .left (by intro e; cases e))
theorem NInv.count (h : NInv k s) (ht : t < k) {φ : Int} (hw : (s.wr t = .left ∧ φ = 1 - s.φ) ∨ (s.wr t = .turn ∧ φ = s.φ)) : NInv k (s.setW t .last s.β φ s.a) := (h.up.count ht hw).down (nwu h .last (by intro e; cases e))
theorem NInv.pass (h : NInv k s) (ht : t < k) (hw : s.wr t = .last) : NInv k (s.setW t .no s.β s.φ s.a) := (h.up.pass ht hw).down (nwu h .no (by intro e; cases e))
end
end Go.Proofs.YtocdbeonogfopaaGreat
set_option linter.unusedVariables false
set_option linter.unusedSimpArgs false
namespace Go.Proofs.YtocdbeonogfopaaGreat
theorem fin_no {R : LS} (h : Int) (e : R.ret = 0) : R.finR = R ∧ R.finH h = h := by
  have ho : R.over = false := by unfold LS.over; rw [e]; rfl
  unfold LS.finR LS.finH; rw [ho]; exact ⟨rfl, rfl⟩
theorem fin_on {R : LS} (h : Int) (e : R.k.on = true) : R.finR = R ∧ R.finH h = h := by
  have ho : R.over = false := by unfold LS.over; rw [e]; simp
  unfold LS.finR LS.finH; rw [ho]; exact ⟨rfl, rfl⟩
theorem fin_yes {R : LS} (h : Int) (e : R.ret ≠ 0) (e2 : R.k.on = false) : R.finR = zeroF R 0 ∧ R.finH h = behindI R.op R.ret h := by
  have ho : R.over = true := by unfold LS.over; rw [e2]; simpa using e
  unfold LS.finR LS.finH; rw [ho]; exact ⟨rfl, rfl⟩
def wi (b : Int) (n : Nat) (β : Int) : Int := (256 * (b + n) + β) % 4294967296
theorem wi_up (b : Int) (n : Nat) (β : Int) : (256 + wi b n β) % 4294967296 = wi b (n + 1) β := by unfold wi; push_cast; omega
theorem wi_up' (b : Int) (n : Nat) (β : Int) : (wi b n β + 256) % 4294967296 = wi b (n + 1) β := by unfold wi; push_cast; omega
theorem wi_add (b : Int) (n : Nat) (β x : Int) : (x + wi b n β) % 4294967296 = wi b n (x + β) := by unfold wi; omega
theorem wi_bits (b : Int) (n : Nat) {β : Int} (h : 0 ≤ β ∧ β < 4) : bitsI (wi b n β) = β := by unfold bitsI wi; omega
theorem wi_inj {b : Int} {n n' : Nat} {β : Int} (h : wi b n β = wi b n' β) (h1 : n < 100000) (h2 : n' < 100000) : n = n' := by unfold wi at h; omega
theorem wi_less (b : Int) (n : Nat) (β : Int) : (wi b (n + 1) β - 256) % 4294967296 = wi b n β := by unfold wi; push_cast; omega
theorem wi_less2 {b : Int} {o a : Nat} (h : wi b o 0 = (wi b a 0 - 256) % 4294967296) (h1 : o < 50000) (h2 : a < 50000) : o + 1 = a := by unfold wi at h; omega
theorem wi_van (b : Int) (n : Nat) (P : Int) : (((0 - P) % 4294967296) + wi b n P) % 4294967296 = wi b n 0 := by unfold wi; omega
theorem wi_van' (b : Int) (n : Nat) (P : Int) : (((256 - P) % 4294967296) + wi b n P) % 4294967296 = wi b (n + 1) 0 := by unfold wi; push_cast; omega
end Go.Proofs.YtocdbeonogfopaaGreat
set_option linter.unusedVariables false
set_option linter.unusedSimpArgs false
namespace Go.Proofs.YtocdbeonogfopaaGreat
abbrev WtG := Int → Int → Int → Int → Int → Int → Option (Int × (Int → Bool))
abbrev wtR (wt : WtG) (r : LS) : Option (Int × (Int → Bool)) := wt r.n r.task r.op r.line r.a r.b
structure WaitLn (wt : WtG) (r r' : LS) (c : Int) (q : Int → Bool) : Prop where
  xs : r'.xs = (r.stepR c q).xs
  s : r'.s = (r.stepR c q).next
  k : r'.k = r.k
  b : r'.b = r.b
  a : (r.stepR c q).seen = false → r'.a = r.a
  stay : (r.stepR c q).done = false → r'.line = r.line ∧ r'.ret = r.ret ∧ wtR wt r' = wtR wt r
structure PlainLn (r r' : LS) : Prop where
  far : ∀ d, 8 + 2 * r.n ≤ d → wordAt r'.xs d = wordAt r.xs d
  s : r'.s = r.s
  k : r'.k = r.k ∨ ∃ c, r'.k = beginI r.mode c
structure LinesQ (L : LS → LS) (wt : WtG) : Prop where
  cB : ∀ (r : LS) c q, wtR wt r = some (c, q) → r.n ≤ 64 → 0 ≤ r.task → r.task < r.n → 0 ≤ c ∧ c < 8 + 2 * r.n
  op0 : ∀ r : LS, r.op = 0 → wtR wt r = none
  line0 : ∀ r : LS, r.line = 0 → wtR wt r = none
  same : ∀ r : LS, (L r).n = r.n ∧ (L r).mode = r.mode ∧ (L r).task = r.task ∧ (L r).op = r.op ∧ (L r).xs.length = r.xs.length
  wait : ∀ (r : LS) c q, r.k.on = false → wtR wt r = some (c, q) → WaitLn wt r (L r) c q
structure GenQ (wt : WtG) (k : Nat) (mode : Int) (m : MV) : Prop where
  len : m.xs.length = 8 + 4 * k
  cst : ∀ i, i < k → (m.rs i).n = k ∧ (m.rs i).mode = mode ∧ (m.rs i).task = i
  sr : ∀ i, i < k → (m.rs i).s = 0 ∨ (m.rs i).s = 1 ∨ (m.rs i).s = 2 ∨ (m.rs i).s = 3 ∨ (m.rs i).s = 4
  sp : ∀ i, i < k → mode ≠ 2 → (m.rs i).s = 0
  sw : ∀ i, i < k → (m.rs i).s ≠ 0 → (∃ c q, wtR wt (m.rs i) = some (c, q)) ∧ (m.rs i).k.on = false
  wat : ∀ i, i < k → ((m.rs i).s = 0 ∨ (m.rs i).s = 1 → wordAt m.xs (wc k i) = 0) ∧ ((m.rs i).s = 2 ∨ (m.rs i).s = 3 ∨ (m.rs i).s = 4 → ∀ c q, wtR wt (m.rs i) = some (c, q) → wordAt m.xs (wc k i) = c + 1)
  kon : ∀ i, i < k → (m.rs i).k.on = true → 0 ≤ (m.rs i).k.i ∧ (m.rs i).k.i < k
  rt : ∀ i, i < k → (m.rs i).k.on = false → (m.rs i).ret = 0
  idle : ∀ i, i < k → (m.rs i).op = 0 → (m.rs i).k.on = false
  nl : ∀ i, i < k → ∀ c q, wtR wt (m.rs i) = some (c, q) → (m.rs i).s = 3 → hasP m.xs k i = false → q (wordAt m.xs c) = true → ∃ j, j < k ∧ (m.rs j).k.on = true ∧ (m.rs j).k.c = c ∧ (m.rs j).k.i ≤ i
section
variable {L : LS → LS} {wt : WtG} {k : Nat} {mode : Int} {m : MV} {t : Nat}
theorem GenQ.cell (h : GenQ wt k mode m) (hL : LinesQ L wt) (hk : k ≤ 64) {i : Nat} (hi : i < k) {c : Int} {q : Int → Bool} (hw : wtR wt (m.rs i) = some (c, q)) : 0 ≤ c ∧ c < 8 + 2 * k := by
  obtain ⟨c1, c2, c3⟩ := h.cst i hi
  have := hL.cB (m.rs i) c q hw (by omega) (by omega) (by omega)
  rwa [c1] at this
theorem GenQ.start (hL : LinesQ L wt) (h : GenQ wt k mode m) (ht : t < k) (h0 : (m.rs t).op = 0) (op : Int) : GenQ wt k mode (m.start t op) := by
  have hon := h.idle t ht h0
  have hs0 : (m.rs t).s = 0 := by
    by_cases e : (m.rs t).s = 0
    · exact e
    · obtain ⟨⟨c, q, hw⟩, _⟩ := h.sw t ht e
      rw [hL.op0 _ h0] at hw; cases hw
  have hxs : (m.start t op).xs = m.xs := rfl
  have hrs : (m.start t op).rs = upd m.rs t (zeroF (m.at t) op) := rfl
  refine ⟨h.len, fun i hi => ?_, fun i hi => ?_, fun i hi hm => ?_, fun i hi hne => ?_, fun i hi => ?_, fun i hi ho => ?_, fun i hi ho => ?_, fun i hi ho => ?_, fun i hi c q hw hs hp hq => ?_⟩
  all_goals rw [hrs] at *
  all_goals try rw [hxs] at *
  · by_cases e : i = t
    · subst e; rw [upd_same]; exact h.cst i hi
    · rw [upd_other _ _ e]; exact h.cst i hi
  · by_cases e : i = t
    · subst e; rw [upd_same]; exact .inl rfl
    · rw [upd_other _ _ e]; exact h.sr i hi
  · by_cases e : i = t
    · subst e; rw [upd_same]; rfl
    · rw [upd_other _ _ e]; exact h.sp i hi hm
  · by_cases e : i = t
    · subst e; rw [upd_same] at hne; exact absurd rfl hne
    · rw [upd_other _ _ e] at hne ⊢; exact h.sw i hi hne
  · by_cases e : i = t
    · subst e; rw [upd_same]
      exact ⟨fun _ => (h.wat i hi).1 (.inl hs0), fun hh => by rcases hh with hh | hh | hh <;> cases hh⟩
    · rw [upd_other _ _ e]; exact h.wat i hi
  · by_cases e : i = t
    · subst e; rw [upd_same] at ho; cases ho
    · rw [upd_other _ _ e] at ho ⊢; exact h.kon i hi ho
  · by_cases e : i = t
    · subst e; rw [upd_same]; rfl
    · rw [upd_other _ _ e] at ho ⊢; exact h.rt i hi ho
  · by_cases e : i = t
    · subst e; rw [upd_same]; rfl
    · rw [upd_other _ _ e] at ho ⊢; exact h.idle i hi ho
  · have far : ∀ j, j < k → (m.rs j).k.on = true → j ≠ t := fun j _ ho e => by subst e; rw [hon] at ho; cases ho
    by_cases e : i = t
    · subst e; rw [upd_same] at hs; cases hs
    · rw [upd_other _ _ e] at hw hs
      obtain ⟨j, hj, h1, h2, h3⟩ := h.nl i hi c q hw hs hp hq
      exact ⟨j, hj, by rw [upd_other _ _ (far j hj h1)]; exact ⟨h1, h2, h3⟩⟩
end
end Go.Proofs.YtocdbeonogfopaaGreat
