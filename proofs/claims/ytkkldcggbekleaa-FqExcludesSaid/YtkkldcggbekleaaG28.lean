import Derived.Deep.OwnRows
import Derived.Test.YtkkldcggbekleaaG26
import Derived.Test.YtkkldcggbekleaaG3
import Derived.Test.YtkkldcggbekleaaG25
import Derived.Test.YtkkldcggbekleaaG27
import Derived.Test.YtkkldcggbekleaaG6
set_option linter.unusedVariables false
set_option linter.unusedSimpArgs false
namespace Go.Proofs.Ytkkldcggbekleaa
open Go.RowKit
theorem many_bd (m : MV) (what : Int) : ∀ k, manyI m what k ≤ k
  | 0 => Nat.le_refl _
  | k + 1 => by
    have := many_bd m what k
    unfold manyI
    split <;> omega
theorem many_any (L : List (Nat × TypeId × Array Value)) (w0 : World) (X GL GH : Nat) (B : Nat → Nat) (p A : Option Addr) (cp k : Nat) (m : MV) (what : Int) (w : World) (h : MatchP L w0 X GL GH B p A cp k m w) (hk : k ≤ 1000) :
    Calls Try.prog 14 #[Value.pointer (some ⟨X, 0, none⟩), .int .i64 what] w fun e w' => e = .returned (.int .i64 (manyI m what k)) ∧ w = w' := by
  obtain ⟨cl, hx0⟩ := h.x
  obtain ⟨csh, hh0, hh1⟩ := h.h
  have x1 : w.cell? ⟨X, 1, none⟩ = some (.slice (some ⟨GH, 0, none⟩) k k) := hx0.cell_ (i := 1) rfl
  have HH := Lib.hid (show ∀ i, i < k → w.cell? ⟨GH, i, none⟩ = some (.int .i64 (m.hold i)) from fun i hi => hh0.cell_ (hh1 i hi))
  clear h hx0 hh0 hh1
  go_enter Try.func14, Try.ntmps14
  go_wp2_with fail
  go_loop [5, 6] (fun nv iv => ∃ i : Nat, i ≤ k ∧ iv = .int .i64 i ∧ nv = .int .i64 (manyI m what i)) (fun _ iv => k - (intOf iv).toNat)
  case atStart => exact ⟨0, Nat.zero_le _, rfl, rfl⟩
  case round =>
    obtain ⟨i, hi, rfl, rfl⟩ := hrel
    have b1 := many_bd m what i
    by_cases hlt : i < k
    · have gh := HH.out i hlt
      have HS := Lib.hid (show manyI m what (i + 1) = if m.hold i = what then manyI m what i + 1 else manyI m what i from rfl)
      by_cases he : m.hold i = what
      · have he' : (m.hold i == what) = true := beq_iff_eq.2 he
        have HE := Lib.hid (HS.out.trans (if_pos he))
        clear he
        generalize manyI m what i = c at *
        generalize m.hold i = hv at *
        go_wp2
        go_round
        case rel => exact ⟨i + 1, by omega, by go_num, by rw [HE.out]; first | done | go_num⟩
        case measure => simp [intOf]; omega
      · have he' : (m.hold i == what) = false := beq_eq_false_iff_ne.2 he
        have HE := Lib.hid (HS.out.trans (if_neg he))
        clear he
        generalize manyI m what i = c at *
        generalize m.hold i = hv at *
        go_wp2
        go_round
        case rel => exact ⟨i + 1, by omega, by go_num, by rw [HE.out]; first | done | go_num⟩
        case measure => simp [intOf]; omega
    · obtain rfl : i = k := by omega
      go_wp2
      go_ret
      exact ⟨rfl, rfl⟩
theorem infoI : (Try.prog.info? 3).map (fun i => (i.zero, i.size, i.bytes)) = some (some (.int .i64 0), 1, 8) := by kernel_rfl
structure BegunI (w0 : World) (X GH b : Nat) (A : Option Addr) (cp k : Nat) (mode : Int) (xs : List Int) (j : Nat) (W : World) : Prop where
  x : ∃ lv bs, Row W X 49 #[lv, .slice (some ⟨GH, 0, none⟩) k k] ∧ OwnP w0.heap.size W lv bs ∧ bs.length = j ∧ (∀ (i : Nat) (b' : Nat), bs[i]? = some b' → Row W b' 61 (newCells (some ⟨b, 0, none⟩) k mode i 0) ∧ w0.heap.size ≤ b') ∧ (∀ (i i' b' : Nat), bs[i]? = some b' → bs[i']? = some b' → i = i')
  h : ∃ cs, Row W GH 3 cs ∧ ∀ i, i < k → cs[i]? = some (.int .i64 0)
  made : Made w0 b A cp xs W
  gh : w0.heap.size ≤ GH
  xb : w0.heap.size ≤ X
def BegunP (k : Nat) (m : MV) (w : World) (e : Ending) (w' : World) : Prop := ∃ X GL GH B p A cp, e = .returned (Value.pointer (some ⟨X, 0, none⟩)) ∧ MatchP [] w X GL GH B p A cp k m w'
set_option maxRecDepth 100000 in
set_option maxHeartbeats 2000000 in
theorem begun_any (k : Nat) (mode b0 : Int) (w : World) (hk : 1 ≤ k ∧ k ≤ 64) (hb : 0 ≤ b0 ∧ b0 < 4294967296) :
    Calls Try.prog 12 #[.int .i64 k, .int .i64 mode, .int .u32 b0] w (BegunP k ⟨fun i => newR k mode i 0 (fqXs k), fun _ => 0, (fqXs k)⟩ w) := by
  have HBD := Lib.hid hb
  have HK := Lib.hid hk
  have hk1 : (1 : Int) ≤ k := by omega
  have hk2 : (k : Int) ≤ 64 := by omega
  have hk3 : k ≤ 64 := by omega
  clear hb hk
  have hmk := fun W => run_make_row' (P := Try.prog) 23 3 (.int .i64 0) 8 Try.underlying23 infoI rfl .i64 .i64 k (by omega) (by omega) W
  go_enter Try.func12, Try.ntmps12
  go_wp2_with fail
  refine (first_fq k b0 _ HK.out HBD.out).mono ?_
  rintro e w1 ⟨gf, rfl, hg, hH, hO⟩
  have HH := Lib.hid hH
  have HO := Lib.hid hO
  clear hg hH hO
  go_wp2_with fail
  refine (from_ok _ _ _ _ _ (by omega) HH.out).mono ?_
  rintro e w2 ⟨b, A', c', rfl, hb, hA, hM, hO⟩
  have HM : Hid (Made w b A' c' _ w2) := Lib.hid ⟨hM, fun j hj => Nat.le_trans HO.out.size (hA j hj), HO.out.trans hO⟩
  clear hb hA hM hO HO HH
  have e1 := (Only.refl Nil w2).alloc (.cells (madeCells #[.int .i64 0] k) 3)
  have e2 := e1.alloc (.cells #[.slice none 0 0, .slice (some ⟨w2.heap.size, 0, none⟩) k k] 49)
  have HI0 : Hid (BegunI w (w2.heap.size + 1) w2.heap.size b A' c' k mode (fqXs k) 0 ((w2.alloc (.cells (madeCells #[.int .i64 0] k) 3)).alloc (.cells #[.slice none 0 0, .slice (some ⟨w2.heap.size, 0, none⟩) k k] 49))) :=
    Lib.hid ⟨⟨_, [], Row.new2 w2 _ _ _, ownP_nil _ _, rfl, fun i b' h => by simp at h, fun i i' b' h => by simp at h⟩, ⟨_, (Row.new w2 _ _).alloc _, fun i hi => made_zero k i hi⟩, ⟨HM.out.mem.only e2 id (fun _ _ => id), HM.out.new, HM.out.only.trans e2⟩, HM.out.only.size, Nat.le_trans HM.out.only.size (Nat.le_succ _)⟩
  clear e1 e2 HM
  go_upto_region 7 with (fail)
  generalize (w2.alloc (.cells (madeCells #[.int .i64 0] k) 3)).alloc (.cells #[.slice none 0 0, .slice (some ⟨w2.heap.size, 0, none⟩) k k] 49) = w3 at *
  generalize w2.heap.size + 1 = X at *
  generalize w2.heap.size = GH at *
  clear hmk
  go_loopw [12] (fun iv wr => ∃ j : Nat, j ≤ k ∧ iv = .int .i64 j ∧ BegunI w X GH b A' c' k mode (fqXs k) j wr) (fun iv _ => k - (intOf iv).toNat)
  case atStart => exact ⟨0, Nat.zero_le _, rfl, HI0.out⟩
  case round =>
    obtain ⟨j, hj, rfl, hI⟩ := hrel
    clear HI0
    obtain ⟨lv, bs, hx, hown, hlen, hruns, hinj⟩ := hI.x
    have HI := Lib.hid hI
    have HX := Lib.hid hx
    have HOW := Lib.hid hown
    have HLN := Lib.hid hlen
    have HRU := Lib.hid hruns
    have HIN := Lib.hid hinj
    clear hI hlen hruns hinj
    by_cases hlt : j < k
    · obtain ⟨A9, n9, c9, rfl⟩ := ownP_form hown
      have cx : wr.cell? ⟨X, 0, none⟩ = some (.slice A9 n9 c9) := hx.cell_ (i := 0) rfl
      clear hx hown
      have e1 := (Only.refl Nil wr).alloc (.cells (newCells (some ⟨b, 0, none⟩) k mode j 0) 61)
      have e2 := e1.alloc (.cells #[.pointer (some ⟨wr.heap.size, 0, none⟩)] 62)
      have HE2 := Lib.hid e2
      have HRN := Lib.hid ((Row.new wr 61 (newCells (some ⟨b, 0, none⟩) k mode j 0)).alloc (.cells #[.pointer (some ⟨wr.heap.size, 0, none⟩)] 62))
      have HPN := Lib.hid (Row.new2 wr (.cells (newCells (some ⟨b, 0, none⟩) k mode j 0) 61) 62 #[.pointer (some ⟨wr.heap.size, 0, none⟩)])
      have HBASE := Lib.hid (Nat.le_trans HI.out.made.only.size e2.size)
      clear e1 e2
      unfold newCells at HE2 HRN HPN HBASE
      go_wp2_with (at_builtin; refine wp_appP rfl (.tmp 43) (.tmp 51) rfl w.heap.size _ bs (by rfl) (own_only HOW.out HE2.out (fun _ _ => id)) (wr.heap.size + 1) wr.heap.size (by rfl) HPN.out (by have := HLN.out; omega) HBASE.out ?_)
      intro v' w5 hown5 hO5
      obtain ⟨A8, n8, c8, rfl⟩ := ownP_form hown5
      clear cx
      have HX5 := Lib.hid ((HX.out.only HE2.out id).only hO5 (fun e => by
        obtain ⟨cur, hc⟩ := ownP_tag HOW.out e
        exact row_ne HX.out hc (by decide) rfl))
      have HFAR := Lib.hid (show ∀ (g : Nat) (t : TypeId) (cs : Array Value), Row wr g t cs → t ≠ 62 → Row w5 g t cs from fun g t cs hr ht => (hr.only HE2.out id).only hO5 (fun e => by
        obtain ⟨cur, hc⟩ := ownP_tag HOW.out e
        exact row_ne hr hc ht rfl))
      have HRN5 := Lib.hid (HRN.out.only hO5 (fun e => by
        have := (World.ownsRow.lt HOW.out _ e).2
        omega))
      have HM5 : Hid (Made w b A' c' (fqXs k) w5) := Lib.hid ⟨(HI.out.made.mem.only HE2.out id (fun _ _ => id)).only hO5 (fun e => by
          obtain ⟨cur, hc⟩ := ownP_tag HOW.out e
          exact row_ne HI.out.made.mem.hdr hc (by decide) rfl) (fun i hi e => by
          obtain ⟨cur, hc⟩ := ownP_tag HOW.out e
          exact memo_not (Memo.of HI.out.made.mem) hc (by decide) (by decide) (.inr hi)), HI.out.made.new, (HI.out.made.only.trans HE2.out).step hO5 (fun i hi e => by
          have := (World.ownsRow.lt HOW.out _ e).1
          omega)⟩
      have HOW5 := Lib.hid hown5
      have HWS := Lib.hid (show wr.heap.size < w5.heap.size from by
        have h1 := hO5.size
        have h2 : wr.heap.size < ((wr.alloc (.cells #[.pointer (some ⟨b, 0, none⟩), .int .i64 k, .int .i64 mode, .int .i64 j, .int .i64 0, .int .i64 0, .int .u32 0, .int .u32 0, .int .i64 0, .bool false, .int .i64 0, .int .i64 0, .bool false, .int .i64 0, .int .i64 0, .int .i64 0, .int .u32 0, .int .u32 0, .int .u32 0, .slice none 0 0] 61)).alloc (.cells #[.pointer (some ⟨wr.heap.size, 0, none⟩)] 62)).heap.size := by simp; omega
        omega)
      have y0 : w5.cell? ⟨X, 0, none⟩ = some (.slice A9 n9 c9) := HX5.out.cell_ (i := 0) rfl
      have yf : w5.frozen? ⟨X, 0, none⟩ = false := HX5.out.frozen 0
      clear hown5 hO5
      go_wp2
      clear y0 yf
      have HO6 := Lib.hid ((Only.refl (· = X) w5).setCell (p := ⟨X, 0, none⟩) (.inr rfl) (.slice A8 n8 c8))
      have hI' : BegunI w X GH b A' c' k mode (fqXs k) (j + 1) (w5.setCell ⟨X, 0, none⟩ (.slice A8 n8 c8)) := by
        refine ⟨⟨.slice A8 n8 c8, bs ++ [wr.heap.size], HX5.out.set 0 (.slice A8 n8 c8), own_only HOW5.out HO6.out (fun i hi e => ?_), by rw [List.length_append, HLN.out]; rfl, fun i b' hb' => ?_, fun i i' b' h1 h2 => ?_⟩, ?_, ⟨HM5.out.mem.only HO6.out (fun e => row_ne HM5.out.mem.hdr HX5.out (by decide) e) (fun i hi e => memo_not (Memo.of HM5.out.mem) HX5.out (by decide) (by decide) (by subst e; exact .inr hi)), HM5.out.new, HM5.out.only.setCell (.inl HI.out.xb) _⟩, HI.out.gh, HI.out.xb⟩
        · obtain ⟨cur, hc⟩ := ownP_tag HOW5.out hi
          exact row_ne hc HX5.out (by decide) e
        · by_cases hi : i < bs.length
          · rw [List.getElem?_append_left hi] at hb'
            obtain ⟨hr, hb0⟩ := HRU.out i b' hb'
            exact ⟨(HFAR.out _ _ _ hr (by decide)).only HO6.out (fun e => row_ne (HFAR.out _ _ _ hr (by decide)) HX5.out (by decide) e), hb0⟩
          · rw [List.getElem?_append_right (by omega)] at hb'
            have hij : i = bs.length := by
              by_cases e : i = bs.length
              · exact e
              · rw [List.getElem?_eq_none (by simp; omega)] at hb'
                cases hb'
            subst hij
            simp only [Nat.sub_self, List.getElem?_cons_zero, Option.some.injEq] at hb'
            subst hb'
            rw [HLN.out]
            exact ⟨HRN5.out.only HO6.out (fun e => row_ne HRN5.out HX5.out (by decide) e), HI.out.made.only.size⟩
        · have hlt1 : ∀ (q : Nat), bs[q]? = some b' → b' < wr.heap.size := fun q hq => (HRU.out q b' hq).1.lt
          by_cases hi : i < bs.length
          · by_cases hi' : i' < bs.length
            · rw [List.getElem?_append_left hi] at h1
              rw [List.getElem?_append_left hi'] at h2
              exact HIN.out i i' b' h1 h2
            · rw [List.getElem?_append_left hi] at h1
              have := hlt1 i h1
              rw [List.getElem?_append_right (by omega)] at h2
              have := List.mem_of_getElem? h2
              simp only [List.mem_cons, List.not_mem_nil, or_false] at this
              omega
          · by_cases hi' : i' < bs.length
            · rw [List.getElem?_append_left hi'] at h2
              have := hlt1 i' h2
              rw [List.getElem?_append_right (by omega)] at h1
              have := List.mem_of_getElem? h1
              simp only [List.mem_cons, List.not_mem_nil, or_false] at this
              omega
            · have l1 := (List.getElem?_eq_some_iff.1 h1).1
              have l2 := (List.getElem?_eq_some_iff.1 h2).1
              rw [List.length_append] at l1 l2
              simp only [List.length_cons, List.length_nil] at l1 l2
              omega
        · obtain ⟨cs, hc, hz⟩ := HI.out.h
          exact ⟨cs, (HFAR.out _ _ _ hc (by decide)).only HO6.out (fun e => row_ne (HFAR.out _ _ _ hc (by decide)) HX5.out (by decide) e), hz⟩
      go_roundw
      case rel => exact ⟨j + 1, by omega, by go_num, hI'⟩
      case measure => simp [intOf]; omega
    · obtain rfl : j = k := by omega
      clear hx hown
      go_wp2
      go_ret
      rcases HOW.out.2 with ⟨_, hn⟩ | ⟨g, cap, cur, rfl, hb, hg, hc, hm, hsz, ht⟩
      · have := HLN.out; have := HK.out; omega
      · have hcur : ∀ i, i < j → cur[i]? = some (.pointer (some ⟨bs.getD i 0, 0, none⟩)) := fun i hi => by
          have e1 : (cur.toList.take (bs.length * 1))[i]? = (bs.map fun b => Value.pointer (some ⟨b, 0, none⟩))[i]? := by rw [ht]
          have hib : i < bs.length := by rw [HLN.out]; exact hi
          rw [List.getElem?_take, if_pos (by omega), List.getElem?_map, List.getElem?_eq_getElem hib] at e1
          simp only [Option.map_some, Array.getElem?_toList] at e1
          rw [e1]
          simp [List.getD, List.getElem?_eq_getElem hib]
        have hget : ∀ i, i < j → bs[i]? = some (bs.getD i 0) := fun i hi => by
          have hib : i < bs.length := by rw [HLN.out]; exact hi
          simp [List.getD, List.getElem?_eq_getElem hib]
        have hX := HX.out
        rw [HLN.out] at hX
        refine ⟨X, g, GH, fun i => bs.getD i 0, some ⟨b, 0, none⟩, A', c', rfl, ⟨⟨cap, hX⟩, ⟨cur, hg, hcur⟩, HI.out.h, fun i hi => ⟨.slice none 0 0, (HRU.out i _ (hget i hi)).1, Memo.of HI.out.made.mem⟩, fun i i' hi hi' e => ?_, Memo.of HI.out.made.mem, (fq_words _), HI.out.made.only, ?_, fun x hx => by simp at hx, fun x hx => by simp at hx, fun i hi => ⟨Int.le_refl _, by show (0 : Int) < _; decide⟩⟩⟩
        · have h1 := hget i hi
          have h2 := hget i' hi'
          rw [← e] at h2
          exact HIN.out i i' _ h1 h2
        · rintro q (rfl | h | ⟨i, hi, rfl⟩)
          · exact HI.out.gh
          · exact HI.out.made.new q h
          · exact (HRU.out i _ (hget i hi)).2
end Go.Proofs.Ytkkldcggbekleaa
set_option linter.unusedVariables false
set_option linter.unusedSimpArgs false
namespace Go.Proofs.Ytkkldcggbekleaa
open Go.RowKit
def mkR (k : Nat) (mode task op line a b : Int) (kk : WkV) (ret : Int) (os : List Int) (acc : Acc5) (ns : List Nt) : LS := ⟨k, mode, task, op, line, a, b, 0, kk, ret, acc, ns, clean os k⟩
def Nx (L : LS → LS) (r : LS) (k : Nat) (mode task op line a b : Int) (kk : WkV) (ret : Int) (os : List Int) : Prop := ∃ acc ns, r.next L = mkR k mode task op line a b kk ret os acc ns
section
variable {chk : LS → Bool} {L : LS → LS} {r : LS} {k m : Nat} {mode task op line a b c ret : Int} {os : List Int}
theorem Nx.mk {kk : WkV} {r' : LS} (h : r.next L = r') (he : r'.fresh = mkR k mode task op line a b kk ret os acc0 []) : Nx L r k mode task op line a b kk ret os := by
  refine ⟨r'.acc, r'.ns, h.trans ?_⟩
  have e : r' = { r'.fresh with acc := r'.acc, ns := r'.ns } := rfl
  rw [e, he]
  rfl
theorem Nx.on (hk0 : Chk chk) (h0 : r.s = 0) (h : Nx L r k mode task op line a b wk0 0 os) : ∃ acc ns, aloneG chk L (m + 1) r = aloneG chk L m (mkR k mode task op line a b wk0 0 os acc ns) := by
  obtain ⟨acc, ns, e⟩ := h
  exact ⟨acc, ns, by rw [alone_on hk0 h0 (by rw [e]; rfl), e]⟩
theorem Nx.stop (hk0 : Chk chk) (h0 : r.s = 0) (h : Nx L r k mode task op line a b wk0 ret os) (hr : ret ≠ 0) : aloneG chk L (m + 1) r = (ret, clean os k) := by
  obtain ⟨acc, ns, e⟩ := h
  rw [alone_end hk0 h0 (by rw [e]; simp [LS.over, mkR, wk0, hr]), e]
  rfl
theorem Nx.done (hk0 : Chk chk) (h0 : r.s = 0) (ho : os.length = 8) (hk : 1 ≤ k ∧ k ≤ 64) (hc : 0 ≤ c ∧ c < 8) (h : Nx L r k mode task op line a b (beginI mode c) ret os) (hr : ret ≠ 0) (hm : k < m) : aloneG chk L m r = (ret, clean os k) := by
  obtain ⟨acc, ns, e⟩ := h
  exact alone_done hk0 ho hk hc e rfl rfl rfl hr h0 rfl hm
end
end Go.Proofs.Ytkkldcggbekleaa
set_option linter.unusedVariables false
set_option linter.unusedSimpArgs false
namespace Go.Proofs.Ytkkldcggbekleaa
open Go.RowKit
def Idle (k : Nat) (mode : Int) (m : MV) : Prop := ∀ i, i < k → (m.at i).fresh = newR k mode i 0 m.xs
section
variable {L : LS → LS} {k : Nat} {mode : Int} {m : MV} {t : Nat}
structure Same3 (r r' : LS) : Prop where
  n : r'.n = r.n
  mode : r'.mode = r.mode
  task : r'.task = r.task
  op : r'.op = r.op
theorem fresh_zero {r r' : LS} (h : r.fresh = r'.fresh) (op : Int) : (zeroF r op).fresh = (zeroF r' op).fresh := by
  have h1 : r.n = r'.n := by have e := congrArg LS.n h; exact e
  have h2 : r.mode = r'.mode := by have e := congrArg LS.mode h; exact e
  have h3 : r.task = r'.task := by have e := congrArg LS.task h; exact e
  have h4 : r.xs = r'.xs := by have e := congrArg LS.xs h; exact e
  unfold zeroF LS.fresh
  simp only [h1, h2, h3, h4]
theorem while_alone (hL : ∀ r : LS, Same3 r (r.next L)) : ∀ (n : Nat) (m : MV) (ret : Int) (ys : List Int), (m.at t).op ≠ 0 → ret ≠ 0 → aloneG LS.stuck L (n + 1) (m.at t) = (ret, ys) →
    ∃ m', whileI L t (n + 1) m = m' ∧ m'.xs = ys ∧ m'.hold = upd m.hold t (behindI (m.at t).op ret (m.hold t)) ∧ (∀ i, i ≠ t → m'.rs i = m.rs i) ∧ ∃ r, (m'.at t).fresh = (zeroF r 0).fresh ∧ r.n = (m.at t).n ∧ r.mode = (m.at t).mode ∧ r.task = (m.at t).task ∧ r.xs = ys := by
  intro n
  induction n with
  | zero =>
    intro m ret ys hop hret h
    have hs : (m.at t).stuck = false := by
      cases e : (m.at t).stuck
      · rfl
      · have h' : (if (m.at t).stuck = true then ((0 : Int), (m.at t).xs) else _) = (ret, ys) := h
        rw [if_pos e] at h'
        exact absurd (congrArg Prod.fst h').symm hret
    have hov : ((m.at t).next L).over = true := by
      cases e : ((m.at t).next L).over
      · have h' : (if (m.at t).stuck = true then _ else if ((m.at t).next L).over = true then _ else ((0 : Int), ((m.at t).next L).xs)) = (ret, ys) := h
        rw [if_neg (by rw [hs]; exact Bool.false_ne_true), if_neg (by rw [e]; exact Bool.false_ne_true)] at h'
        exact absurd (congrArg Prod.fst h').symm hret
      · rfl
    have h' : (if (m.at t).stuck = true then _ else if ((m.at t).next L).over = true then (((m.at t).next L).ret, ((m.at t).next L).xs) else _) = (ret, ys) := h
    rw [if_neg (by rw [hs]; exact Bool.false_ne_true), if_pos hov] at h'
    obtain ⟨h1, h2⟩ := Prod.mk.inj h'
    have hw : whileI L t (0 + 1) m = m.go L t := by
      show (if (m.at t).op = 0 then m else whileI L t 0 (playI L m t 0)) = _
      rw [if_neg hop]
      show playI L m t 0 = _
      unfold playI
      rw [if_neg hop]
    have hg : m.go L t = ((m.setR t ((m.at t).next L)).setH t (behindI ((m.at t).next L).op ((m.at t).next L).ret (m.hold t))).setR t (zeroF ((m.at t).next L) 0) := by
      unfold MV.go
      rw [if_neg (by rw [hs]; exact Bool.false_ne_true), if_pos hov]
    obtain ⟨q1, q2, q3, q4⟩ := hL (m.at t)
    refine ⟨_, hw.trans hg, h2, ?_, fun i hi => ?_, (m.at t).next L, by rw [at_setR], q1, q2, q3, h2⟩
    · show upd m.hold t _ = upd m.hold t _
      rw [q4, h1]
    · show upd (upd m.rs t _) t _ i = m.rs i
      rw [upd_other _ _ hi, upd_other _ _ hi]
  | succ n ih =>
    intro m ret ys hop hret h
    have hs : (m.at t).stuck = false := by
      cases e : (m.at t).stuck
      · rfl
      · have h' : (if (m.at t).stuck = true then ((0 : Int), (m.at t).xs) else _) = (ret, ys) := h
        rw [if_pos e] at h'
        exact absurd (congrArg Prod.fst h').symm hret
    have h' : (if (m.at t).stuck = true then _ else if ((m.at t).next L).over = true then (((m.at t).next L).ret, ((m.at t).next L).xs) else aloneG LS.stuck L (n + 1) ((m.at t).next L)) = (ret, ys) := h
    rw [if_neg (by rw [hs]; exact Bool.false_ne_true)] at h'
    have hw : whileI L t (n + 1 + 1) m = whileI L t (n + 1) (m.go L t) := by
      show (if (m.at t).op = 0 then m else whileI L t (n + 1) (playI L m t 0)) = _
      rw [if_neg hop]
      unfold playI
      rw [if_neg hop]
    obtain ⟨q1, q2, q3, q4⟩ := hL (m.at t)
    cases hov : ((m.at t).next L).over
    · rw [if_neg (by rw [hov]; exact Bool.false_ne_true)] at h'
      have hg : m.go L t = m.setR t ((m.at t).next L) := by
        unfold MV.go
        rw [if_neg (by rw [hs]; exact Bool.false_ne_true), if_neg (by rw [hov]; exact Bool.false_ne_true)]
      have hat : (m.setR t ((m.at t).next L)).at t = (m.at t).next L := at_setR
      obtain ⟨m', e1, e2, e3, e4, r, e5, e6, e7, e8, e9⟩ := ih (m.setR t ((m.at t).next L)) ret ys (by rw [hat, q4]; exact hop) hret (by rw [hat]; exact h')
      rw [hat, q4] at e3
      rw [hat] at e6 e7 e8
      refine ⟨m', by rw [hw, hg]; exact e1, e2, e3, fun i hi => ?_, r, e5, e6.trans q1, e7.trans q2, e8.trans q3, e9⟩
      rw [e4 i hi]
      show upd m.rs t _ i = _
      rw [upd_other _ _ hi]
    · rw [if_pos hov] at h'
      obtain ⟨h1, h2⟩ := Prod.mk.inj h'
      have hg : m.go L t = ((m.setR t ((m.at t).next L)).setH t (behindI ((m.at t).next L).op ((m.at t).next L).ret (m.hold t))).setR t (zeroF ((m.at t).next L) 0) := by
        unfold MV.go
        rw [if_neg (by rw [hs]; exact Bool.false_ne_true), if_pos hov]
      have hstop : whileI L t (n + 1) (m.go L t) = m.go L t := by
        show (if ((m.go L t).at t).op = 0 then _ else _) = _
        rw [if_pos (by rw [hg, at_setR]; rfl)]
      refine ⟨_, (hw.trans hstop).trans hg, h2, ?_, fun i hi => ?_, (m.at t).next L, by rw [at_setR], q1, q2, q3, h2⟩
      · show upd m.hold t _ = upd m.hold t _
        rw [q4, h1]
      · show upd (upd m.rs t _) t _ i = m.rs i
        rw [upd_other _ _ hi, upd_other _ _ hi]
theorem whole_alone (hL : ∀ r : LS, Same3 r (r.next L)) (hi : Idle k mode m) (ht : t < k) {op ret : Int} {ys : List Int} (hop : op ≠ 0) (hmay : mayI op (m.hold t) = true) (hret : ret ≠ 0)
    (h : aloneG LS.stuck L 201 (newR k mode t op m.xs) = (ret, ys)) : ∃ m', wholeI L m t op = m' ∧ Idle k mode m' ∧ m'.xs = ys ∧ m'.hold = upd m.hold t (behindI op ret (fromI op (m.hold t))) := by
  have hr0 : (m.at t).op = 0 := by
    have e := congrArg LS.op (hi t ht)
    exact e
  have hst : (m.start t op).at t = zeroF (m.at t) op := at_setR
  have hfr : (zeroF (m.at t) op).fresh = newR k mode t op m.xs := by
    have e : (m.at t).fresh = (newR k mode t 0 m.xs).fresh := hi t ht
    rw [fresh_zero e op]
    rfl
  have h0 : aloneG LS.stuck L 201 ((m.start t op).at t) = (ret, ys) := by
    rw [hst, ← alone_fresh chk_stuck (by decide), hfr]
    exact h
  obtain ⟨m', e1, e2, e3, e4, r, e5, e6, e7, e8, e9⟩ := while_alone (t := t) hL 200 (m.start t op) ret ys (by rw [hst]; exact hop) hret h0
  have hw : wholeI L m t op = m' := by
    unfold wholeI
    have hp : playI L m t op = (m.start t op).go L t := by unfold playI; rw [if_pos hr0, if_pos hmay]
    rw [hp, ← e1]
    show _ = (if ((m.start t op).at t).op = 0 then _ else whileI L t 200 (playI L (m.start t op) t 0))
    rw [if_neg (by rw [hst]; exact hop)]
    congr 1
    unfold playI
    rw [if_neg (by rw [hst]; exact hop)]
  refine ⟨m', hw, fun i hik => ?_, e2, ?_⟩
  · by_cases hit : i = t
    · subst hit
      rw [e5]
      have h1 := congrArg LS.n hfr
      have h2 := congrArg LS.mode hfr
      have h3 := congrArg LS.task hfr
      rw [hst] at e6 e7 e8
      unfold zeroF LS.fresh newR
      simp only [e6, e7, e8, e9, e2]
      exact congrArg (fun x => x) (by
        have g1 : (zeroF (m.at i) op).n = k := h1
        have g2 : (zeroF (m.at i) op).mode = mode := h2
        have g3 : (zeroF (m.at i) op).task = i := h3
        rw [g1, g2, g3])
    · have e := hi i hik
      have hrs : m'.rs i = m.rs i := by
        rw [e4 i hit]
        show upd m.rs t _ i = _
        rw [upd_other _ _ hit]
      have e' : (m'.at i).fresh = { (m.at i).fresh with xs := m'.xs } := by unfold MV.at LS.fresh; rw [hrs]
      rw [e', e]
      rfl
  · rw [e3, hst]
    show upd (upd m.hold t (fromI op (m.hold t))) t (behindI op ret (upd m.hold t (fromI op (m.hold t)) t)) = _
    rw [upd_same]
    funext i
    unfold upd
    split <;> rfl
end
end Go.Proofs.Ytkkldcggbekleaa
set_option linter.unusedVariables false
set_option linter.unusedSimpArgs false
set_option linter.unusedSectionVars false
namespace Go.Proofs.Ytkkldcggbekleaa
open Go.RowKit
theorem same_nextq (r : LS) : Same3 r (r.next LS.fq) := by
  unfold LS.next
  split
  · exact ⟨rfl, rfl, rfl, rfl⟩
  · have h := (keep_fq (r := r.fresh)).1
    exact ⟨h.n, h.mode, h.task, h.op⟩
structure ReadsQ (k : Nat) (mode : Int) (c a : Nat) (m : MV) : Prop where
  idle : Idle k mode m
  xs : QW k 0 ((c - a : Nat) : Int) m.xs
  hold : ∀ i, m.hold i = if a ≤ i ∧ i < c then 1 else 0
theorem readsq_many {k : Nat} {mode : Int} {c a : Nat} {m : MV} (h : ReadsQ k mode c a m) : ∀ n, manyI m 1 n = min n c - min n a := by
  intro n
  induction n with
  | zero => unfold manyI; omega
  | succ n ih =>
    unfold manyI
    rw [h.hold n, ih]
    by_cases e : a ≤ n ∧ n < c
    · rw [if_pos (if_pos e)]; omega
    · rw [if_neg (by rw [if_neg e]; decide)]; omega
section
variable {k : Nat} {mode : Int} {c a : Nat} {m : MV} (hk : 2 ≤ k ∧ k ≤ 16) (h : ReadsQ k mode c a m)
include hk h
theorem readsq_come {op : Int} (hop : op = 1 ∨ op = 5) (hc : c < k) (ha : a ≤ c) : ReadsQ k mode (c + 1) a (wholeI LS.fq m c op) := by
  have hE : EndA LS.stuck k 201 (newR k mode c op m.xs) 2 0 ((1 + ((c - a : Nat) : Int)) % 4294967296) := by
    rcases hop with rfl | rfl
    · exact ea_rlock chk_stuck (by omega) hc (m := 195) (ra_new c 1 h.xs)
    · exact ea_tryrlock chk_stuck (by omega) hc (m := 196) (ra_new c 5 h.xs)
  obtain ⟨ys, hal, hy⟩ := hE
  rw [show (1 + ((c - a : Nat) : Int)) % 4294967296 = ((c + 1 - a : Nat) : Int) by omega] at hy
  have hhold : m.hold c = 0 := by rw [h.hold, if_neg (by omega)]
  obtain ⟨m', e, h1, h2, h3⟩ := whole_alone (t := c) same_nextq h.idle hc (by rcases hop with rfl | rfl <;> decide) (by rw [hhold]; rcases hop with rfl | rfl <;> rfl) (by decide) hal
  rw [e]
  refine ⟨h1, by rw [h2]; exact hy, fun i => ?_⟩
  rw [h3]
  have hb : behindI op 2 (fromI op (m.hold c)) = 1 := by rw [hhold]; rcases hop with rfl | rfl <;> rfl
  rw [hb]
  unfold upd
  by_cases e : i = c
  · rw [if_pos e, if_pos (by omega)]
  · rw [if_neg e, h.hold]
    by_cases e2 : a ≤ i ∧ i < c
    · rw [if_pos e2, if_pos (by omega)]
    · rw [if_neg e2, if_neg (by omega)]
theorem readsq_go (hc : c ≤ k) (ha : a < c) : ReadsQ k mode c (a + 1) (wholeI LS.fq m a 2) := by
  obtain ⟨ys, hal, hy⟩ := ea_runlock (mode := mode) chk_stuck (by omega) (show a < k by omega) (m := 201) (ra_new a 2 h.xs) (by omega)
  rw [show (4294967295 + ((c - a : Nat) : Int)) % 4294967296 = ((c - (a + 1) : Nat) : Int) by omega] at hy
  have hhold : m.hold a = 1 := by rw [h.hold, if_pos (by omega)]
  obtain ⟨m', e, h1, h2, h3⟩ := whole_alone (t := a) same_nextq h.idle (by omega) (by decide) (by rw [hhold]; rfl) (by decide) hal
  rw [e]
  refine ⟨h1, by rw [h2]; exact hy, fun i => ?_⟩
  rw [h3]
  have hb : behindI 2 2 (fromI 2 (m.hold a)) = 0 := rfl
  rw [hb]
  unfold upd
  by_cases e : i = a
  · rw [if_pos e, if_neg (by omega)]
  · rw [if_neg e, h.hold]
    by_cases e2 : a ≤ i ∧ i < c
    · rw [if_pos e2, if_pos (by omega)]
    · rw [if_neg e2, if_neg (by omega)]
theorem readsq_refuse (hc : c < k) (ha : a < c) {t : Nat} (ht : t + 1 = k) (htc : c ≤ t) : ReadsQ k mode c a (wholeI LS.fq m t 6) := by
  obtain ⟨ys, hal, hy⟩ := ea_trylock_no (mode := mode) chk_stuck (by omega) (show t < k by omega) (m := 196) (ra_new t 6 h.xs) (by omega)
  have hhold : m.hold t = 0 := by rw [h.hold, if_neg (by omega)]
  obtain ⟨m', e, h1, h2, h3⟩ := whole_alone (t := t) same_nextq h.idle (by omega) (by decide) (by rw [hhold]; rfl) (by decide) hal
  rw [e]
  refine ⟨h1, by rw [h2]; exact hy, fun i => ?_⟩
  rw [h3, hhold]
  have hb : behindI 6 1 (fromI 6 0) = 0 := rfl
  rw [hb]
  unfold upd
  by_cases e : i = t
  · rw [if_pos e, if_neg (by omega)]
  · rw [if_neg e, h.hold]
theorem readsq_last (hc : c < k) (ha : a = c) {t : Nat} (ht : t + 1 = k) (htc : c ≤ t) : (wholeI LS.fq m t 6).hold t = 2 ∧ ∀ i, i ≠ t → (wholeI LS.fq m t 6).hold i = 0 := by
  subst ha
  have hx := h.xs
  rw [show ((a - a : Nat) : Int) = 0 by omega] at hx
  obtain ⟨ys, hal, hy⟩ := ea_trylock (mode := mode) chk_stuck (by omega) (show t < k by omega) (m := 198) (ra_new t 6 hx)
  have hhold : m.hold t = 0 := by rw [h.hold, if_neg (by omega)]
  obtain ⟨m', e, h1, h2, h3⟩ := whole_alone (t := t) same_nextq h.idle (by omega) (by decide) (by rw [hhold]; rfl) (by decide) hal
  rw [e, h3]
  refine ⟨?_, fun i hi => ?_⟩
  · rw [upd_same, hhold]; rfl
  · rw [upd_other _ _ hi, h.hold, if_neg (by omega)]
end
theorem readsq_first {k : Nat} {mode : Int} {xs : List Int} (hl : xs.length = 8 + 4 * k) (hx : ∀ d : Int, wordAt xs d = 0) : ReadsQ k mode 0 0 ⟨fun i => newR k mode i 0 xs, fun _ => 0, xs⟩ :=
  ⟨fun i hi => rfl, (st_first hl hx).w, fun i => by rw [if_neg (by omega)]⟩
theorem manyq_none {m : MV} {t : Nat} (h : m.hold t = 2 ∧ ∀ i, i ≠ t → m.hold i = 0) : ∀ n, manyI m 1 n = 0 := by
  intro n
  induction n with
  | zero => rfl
  | succ n ih =>
    unfold manyI
    rw [ih, if_neg]
    by_cases e : n = t
    · subst e; rw [h.1]; decide
    · rw [h.2 n e]; decide
end Go.Proofs.Ytkkldcggbekleaa
set_option linter.unusedVariables false
set_option linter.unusedSimpArgs false
namespace Go.Proofs.Ytkkldcggbekleaa
open Go.RowKit
set_option maxRecDepth 100000 in
set_option maxHeartbeats 4000000 in
theorem walk_fqTogether (a0 a1 a2 : Int) (a3 : Bool) (w : World) (h0 : (Lit.int .u8 a0).wf = true) (h1 : (Lit.int .u8 a1).wf = true) (h2 : (Lit.int .u32 a2).wf = true) :
    Calls Try.prog 6 #[.int .u8 a0, .int .u8 a1, .int .u32 a2, .bool a3] w fun e w' => e = .returned (.bool true) ∧ Only Nil w w' := by
  have HBD := Lib.hid (wf_u32 h2)
  obtain ⟨n0, n1⟩ := wf_u8 h0
  obtain ⟨n2, n3⟩ := wf_u8 h1
  obtain ⟨k, hkk⟩ : ∃ k : Nat, 2 + a0 % 15 = (k : Int) := ⟨(2 + a0 % 15).toNat, by omega⟩
  obtain ⟨mode, hmm⟩ : ∃ mode : Int, 1 + a1 % 2 = mode := ⟨_, rfl⟩
  have HK := Lib.hid (show 2 ≤ k ∧ k ≤ 16 by omega)
  have HKK := Lib.hid hkk
  have HMM := Lib.hid hmm
  clear h0 h1 h2 hkk hmm
  cases a3
  · skip
    go_enter Try.func6, Try.ntmps6
    go_wp2_with fail
    rw [HKK.out, HMM.out]
    refine (begun_any k mode a2 _ (by have := HK.out; omega) HBD.out).mono ?_
    have HFST := Lib.hid (readsq_first (k := k) (mode := mode) (fq_len k) (fq_zero k))
    generalize hm0 : (⟨fun i => newR k mode i 0 (fqXs k), fun _ => 0, fqXs k⟩ : MV) = m0 at *
    clear hm0
    rintro e w1 ⟨X, GL, GH, B, p, A, cp, rfl, hM⟩
    have e0 := (Only.refl Nil w1).alloc (.cells #[Value.pointer (some ⟨X, 0, none⟩)] 41)
    have HM1 := Lib.hid ((hM.keep e0).beside (Row.new w1 41 #[Value.pointer (some ⟨X, 0, none⟩)]) ⟨by decide, by decide, by decide⟩ (by decide))
    clear hM e0
    go_upto_region 3 with (fail)
    generalize w1.alloc (.cells #[Value.pointer (some ⟨X, 0, none⟩)] 41) = w2 at *
    generalize w1.heap.size = gx at *
    have bx : w2.cell? ⟨gx, 0, none⟩ = some (Value.pointer (some ⟨X, 0, none⟩)) := (show Row w2 gx 41 #[Value.pointer (some ⟨X, 0, none⟩)] from HM1.out.side _ (.head _)).cell_ (i := 0) rfl
    go_wp2_with fail
    clear bx
    clear n0 n1 n2 n3
    have hk1 : (2 : Int) ≤ k := by have := HK.out; omega
    have hk2 : (k : Int) ≤ 16 := by have := HK.out; omega
    go_loopw [13] (fun iv wr => ∃ c : Nat, c + 1 ≤ k ∧ iv = .int .i64 c ∧ ∃ m, MatchP [(gx, 41, #[Value.pointer (some ⟨X, 0, none⟩)])] w X GL GH B p A cp k m wr ∧ ReadsQ k mode c 0 m) (fun iv _ => k - (intOf iv).toNat)
    case atStart => exact ⟨0, by have := HK.out; omega, rfl, m0, HM1.out, HFST.out⟩
    case round =>
      obtain ⟨c, hc, rfl, m, hM, hR⟩ := hrel
      clear HM1 HFST
      have HM := Lib.hid hM
      have HR := Lib.hid hR
      clear hM hR
      by_cases hlt : c + 1 < k
      · have hlt' : (c : Int) < (k : Int) - 1 := by omega
        have HR2 := Lib.hid (readsq_come HK.out HR.out (op := 1) (by simp) (by omega) (Nat.zero_le _))
        have HMN := Lib.hid (show manyI (wholeI LS.fq m c 1) 1 k = c + 1 by rw [readsq_many HR2.out k]; omega)
        go_wp2_with fail
        clear hlt'
        refine (whole_any _ w X GL GH B p A cp k m c 1 gx _ HM.out (by omega) (.head _)).mono ?_
        generalize wholeI LS.fq m c 1 = m2 at *
        rintro e w3 ⟨rfl, hM⟩
        have HM3 := Lib.hid hM
        clear hM HM HR
        have bx : w3.cell? ⟨gx, 0, none⟩ = some (Value.pointer (some ⟨X, 0, none⟩)) := (show Row w3 gx 41 #[Value.pointer (some ⟨X, 0, none⟩)] from HM3.out.side _ (.head _)).cell_ (i := 0) rfl
        go_wp2_with fail
        clear bx
        refine (many_any _ w X GL GH B p A cp k m2 1 _ HM3.out (by omega)).mono ?_
        rw [HMN.out]
        rintro e w4 ⟨rfl, rfl⟩
        have hcc : ((c + 1 : Nat) : Int) = (c : Int) + 1 := by push_cast; rfl
        rw [hcc]
        clear hcc
        go_wp2
        go_roundw
        case rel => exact ⟨c + 1, by omega, by go_num, m2, HM3.out, HR2.out⟩
        case measure => simp [intOf]; omega
      · have hlt' : ¬ (c : Int) < (k : Int) - 1 := by omega
        obtain rfl : k = c + 1 := by omega
        go_wp2_with fail
        clear hlt'
        go_loopw [14] (fun iv wr => ∃ a : Nat, a ≤ c ∧ iv = .int .i64 a ∧ ∃ m, MatchP [(gx, 41, #[Value.pointer (some ⟨X, 0, none⟩)])] w X GL GH B p A cp (c + 1) m wr ∧ ReadsQ (c + 1) mode c a m) (fun iv _ => c - (intOf iv).toNat)
        case atStart => exact ⟨0, Nat.zero_le _, rfl, m, HM.out, HR.out⟩
        case round =>
          obtain ⟨a, ha, rfl, m, hM, hR⟩ := hrel
          clear HM HR
          have HM := Lib.hid hM
          have HR := Lib.hid hR
          clear hM hR
          by_cases hlt : a < c
          · have hlt' : (a : Int) < ((c + 1 : Nat) : Int) - 1 := by omega
            have HR2 := Lib.hid (readsq_refuse HK.out HR.out (by omega) hlt (t := c) rfl (Nat.le_refl _))
            have HH0 := Lib.hid (show (wholeI LS.fq m c 6).hold c = 0 by rw [HR2.out.hold, if_neg (by omega)])
            go_wp2_with fail
            clear hlt'
            refine (whole_any _ w X GL GH B p A cp (c + 1) m c 6 gx _ HM.out (by omega) (.head _)).mono ?_
            generalize wholeI LS.fq m c 6 = m2 at *
            rintro e w3 ⟨rfl, hM⟩
            have HM3 := Lib.hid hM
            clear hM HM HR
            have bx : w3.cell? ⟨gx, 0, none⟩ = some (Value.pointer (some ⟨X, 0, none⟩)) := (show Row w3 gx 41 #[Value.pointer (some ⟨X, 0, none⟩)] from HM3.out.side _ (.head _)).cell_ (i := 0) rfl
            obtain ⟨cl, hx0⟩ := HM3.out.x
            obtain ⟨csh, hh0, hh1⟩ := HM3.out.h
            have x1 : w3.cell? ⟨X, 1, none⟩ = some (.slice (some ⟨GH, 0, none⟩) (c + 1) (c + 1)) := hx0.cell_ (i := 1) rfl
            have gh : w3.cell? ⟨GH, c, none⟩ = some (.int .i64 0) := by have e := hh0.cell_ (hh1 c (by omega)); rw [HH0.out] at e; exact e
            clear hx0 hh0 hh1
            have hidx : ((c + 1 : Nat) : Int) - 1 = ((c : Nat) : Int) := by push_cast; omega
            go_wp2_with fail
            clear bx x1 gh hidx
            have HR4 := Lib.hid (readsq_go HK.out HR2.out (by omega) hlt)
            refine (whole_any _ w X GL GH B p A cp (c + 1) m2 a 2 gx _ HM3.out (by omega) (.head _)).mono ?_
            generalize wholeI LS.fq m2 a 2 = m4 at *
            rintro e w5 ⟨rfl, hM⟩
            have HM5 := Lib.hid hM
            clear hM HM3 HR2
            go_wp2
            go_roundw
            case rel => exact ⟨a + 1, by omega, by go_num, m4, HM5.out, HR4.out⟩
            case measure => simp [intOf]; omega
          · have hlt' : ¬ (a : Int) < ((c + 1 : Nat) : Int) - 1 := by omega
            obtain rfl : a = c := by omega
            have HR2 := Lib.hid (readsq_last HK.out HR.out (by omega) rfl (t := a) rfl (Nat.le_refl _))
            go_wp2_with fail
            clear hlt'
            refine (whole_any _ w X GL GH B p A cp (a + 1) m a 6 gx _ HM.out (by omega) (.head _)).mono ?_
            generalize wholeI LS.fq m a 6 = m2 at *
            rintro e w3 ⟨rfl, hM⟩
            have HM3 := Lib.hid hM
            have HMN := Lib.hid (manyq_none HR2.out (a + 1))
            clear hM HM HR
            have bx : w3.cell? ⟨gx, 0, none⟩ = some (Value.pointer (some ⟨X, 0, none⟩)) := (show Row w3 gx 41 #[Value.pointer (some ⟨X, 0, none⟩)] from HM3.out.side _ (.head _)).cell_ (i := 0) rfl
            obtain ⟨cl, hx0⟩ := HM3.out.x
            obtain ⟨csh, hh0, hh1⟩ := HM3.out.h
            have x1 : w3.cell? ⟨X, 1, none⟩ = some (.slice (some ⟨GH, 0, none⟩) (a + 1) (a + 1)) := hx0.cell_ (i := 1) rfl
            have gh : w3.cell? ⟨GH, a, none⟩ = some (.int .i64 2) := by have e := hh0.cell_ (hh1 a (by omega)); rw [HR2.out.1] at e; exact e
            clear hx0 hh0 hh1
            have hidx : ((a + 1 : Nat) : Int) - 1 = ((a : Nat) : Int) := by push_cast; omega
            go_wp2_with fail
            clear bx x1 gh hidx
            refine (many_any _ w X GL GH B p A cp (a + 1) m2 1 _ HM3.out (by have := HK.out; omega)).mono ?_
            rw [HMN.out]
            rintro e w4 ⟨rfl, rfl⟩
            rw [show ((0 : Nat) : Int) = 0 from rfl]
            go_wp2_with fail
            refine (awake_any _).mono ?_
            rintro e w9 ⟨rfl, hO⟩
            have HO9 := Lib.hid (HM3.out.only.trans hO)
            clear hO
            go_wp2
            go_ret
            exact ⟨rfl, HO9.out⟩
  · skip
    go_enter Try.func6, Try.ntmps6
    go_wp2_with fail
    rw [HKK.out, HMM.out]
    refine (begun_any k mode a2 _ (by have := HK.out; omega) HBD.out).mono ?_
    have HFST := Lib.hid (readsq_first (k := k) (mode := mode) (fq_len k) (fq_zero k))
    generalize hm0 : (⟨fun i => newR k mode i 0 (fqXs k), fun _ => 0, fqXs k⟩ : MV) = m0 at *
    clear hm0
    rintro e w1 ⟨X, GL, GH, B, p, A, cp, rfl, hM⟩
    have e0 := (Only.refl Nil w1).alloc (.cells #[Value.pointer (some ⟨X, 0, none⟩)] 41)
    have HM1 := Lib.hid ((hM.keep e0).beside (Row.new w1 41 #[Value.pointer (some ⟨X, 0, none⟩)]) ⟨by decide, by decide, by decide⟩ (by decide))
    clear hM e0
    go_upto_region 3 with (fail)
    generalize w1.alloc (.cells #[Value.pointer (some ⟨X, 0, none⟩)] 41) = w2 at *
    generalize w1.heap.size = gx at *
    have bx : w2.cell? ⟨gx, 0, none⟩ = some (Value.pointer (some ⟨X, 0, none⟩)) := (show Row w2 gx 41 #[Value.pointer (some ⟨X, 0, none⟩)] from HM1.out.side _ (.head _)).cell_ (i := 0) rfl
    go_wp2_with fail
    clear bx
    clear n0 n1 n2 n3
    have hk1 : (2 : Int) ≤ k := by have := HK.out; omega
    have hk2 : (k : Int) ≤ 16 := by have := HK.out; omega
    go_loopw [13] (fun iv wr => ∃ c : Nat, c + 1 ≤ k ∧ iv = .int .i64 c ∧ ∃ m, MatchP [(gx, 41, #[Value.pointer (some ⟨X, 0, none⟩)])] w X GL GH B p A cp k m wr ∧ ReadsQ k mode c 0 m) (fun iv _ => k - (intOf iv).toNat)
    case atStart => exact ⟨0, by have := HK.out; omega, rfl, m0, HM1.out, HFST.out⟩
    case round =>
      obtain ⟨c, hc, rfl, m, hM, hR⟩ := hrel
      clear HM1 HFST
      have HM := Lib.hid hM
      have HR := Lib.hid hR
      clear hM hR
      by_cases hlt : c + 1 < k
      · have hlt' : (c : Int) < (k : Int) - 1 := by omega
        have HR2 := Lib.hid (readsq_come HK.out HR.out (op := 5) (by simp) (by omega) (Nat.zero_le _))
        have HMN := Lib.hid (show manyI (wholeI LS.fq m c 5) 1 k = c + 1 by rw [readsq_many HR2.out k]; omega)
        go_wp2_with fail
        clear hlt'
        refine (whole_any _ w X GL GH B p A cp k m c 5 gx _ HM.out (by omega) (.head _)).mono ?_
        generalize wholeI LS.fq m c 5 = m2 at *
        rintro e w3 ⟨rfl, hM⟩
        have HM3 := Lib.hid hM
        clear hM HM HR
        have bx : w3.cell? ⟨gx, 0, none⟩ = some (Value.pointer (some ⟨X, 0, none⟩)) := (show Row w3 gx 41 #[Value.pointer (some ⟨X, 0, none⟩)] from HM3.out.side _ (.head _)).cell_ (i := 0) rfl
        go_wp2_with fail
        clear bx
        refine (many_any _ w X GL GH B p A cp k m2 1 _ HM3.out (by omega)).mono ?_
        rw [HMN.out]
        rintro e w4 ⟨rfl, rfl⟩
        have hcc : ((c + 1 : Nat) : Int) = (c : Int) + 1 := by push_cast; rfl
        rw [hcc]
        clear hcc
        go_wp2
        go_roundw
        case rel => exact ⟨c + 1, by omega, by go_num, m2, HM3.out, HR2.out⟩
        case measure => simp [intOf]; omega
      · have hlt' : ¬ (c : Int) < (k : Int) - 1 := by omega
        obtain rfl : k = c + 1 := by omega
        go_wp2_with fail
        clear hlt'
        go_loopw [14] (fun iv wr => ∃ a : Nat, a ≤ c ∧ iv = .int .i64 a ∧ ∃ m, MatchP [(gx, 41, #[Value.pointer (some ⟨X, 0, none⟩)])] w X GL GH B p A cp (c + 1) m wr ∧ ReadsQ (c + 1) mode c a m) (fun iv _ => c - (intOf iv).toNat)
        case atStart => exact ⟨0, Nat.zero_le _, rfl, m, HM.out, HR.out⟩
        case round =>
          obtain ⟨a, ha, rfl, m, hM, hR⟩ := hrel
          clear HM HR
          have HM := Lib.hid hM
          have HR := Lib.hid hR
          clear hM hR
          by_cases hlt : a < c
          · have hlt' : (a : Int) < ((c + 1 : Nat) : Int) - 1 := by omega
            have HR2 := Lib.hid (readsq_refuse HK.out HR.out (by omega) hlt (t := c) rfl (Nat.le_refl _))
            have HH0 := Lib.hid (show (wholeI LS.fq m c 6).hold c = 0 by rw [HR2.out.hold, if_neg (by omega)])
            go_wp2_with fail
            clear hlt'
            refine (whole_any _ w X GL GH B p A cp (c + 1) m c 6 gx _ HM.out (by omega) (.head _)).mono ?_
            generalize wholeI LS.fq m c 6 = m2 at *
            rintro e w3 ⟨rfl, hM⟩
            have HM3 := Lib.hid hM
            clear hM HM HR
            have bx : w3.cell? ⟨gx, 0, none⟩ = some (Value.pointer (some ⟨X, 0, none⟩)) := (show Row w3 gx 41 #[Value.pointer (some ⟨X, 0, none⟩)] from HM3.out.side _ (.head _)).cell_ (i := 0) rfl
            obtain ⟨cl, hx0⟩ := HM3.out.x
            obtain ⟨csh, hh0, hh1⟩ := HM3.out.h
            have x1 : w3.cell? ⟨X, 1, none⟩ = some (.slice (some ⟨GH, 0, none⟩) (c + 1) (c + 1)) := hx0.cell_ (i := 1) rfl
            have gh : w3.cell? ⟨GH, c, none⟩ = some (.int .i64 0) := by have e := hh0.cell_ (hh1 c (by omega)); rw [HH0.out] at e; exact e
            clear hx0 hh0 hh1
            have hidx : ((c + 1 : Nat) : Int) - 1 = ((c : Nat) : Int) := by push_cast; omega
            go_wp2_with fail
            clear bx x1 gh hidx
            have HR4 := Lib.hid (readsq_go HK.out HR2.out (by omega) hlt)
            refine (whole_any _ w X GL GH B p A cp (c + 1) m2 a 2 gx _ HM3.out (by omega) (.head _)).mono ?_
            generalize wholeI LS.fq m2 a 2 = m4 at *
            rintro e w5 ⟨rfl, hM⟩
            have HM5 := Lib.hid hM
            clear hM HM3 HR2
            go_wp2
            go_roundw
            case rel => exact ⟨a + 1, by omega, by go_num, m4, HM5.out, HR4.out⟩
            case measure => simp [intOf]; omega
          · have hlt' : ¬ (a : Int) < ((c + 1 : Nat) : Int) - 1 := by omega
            obtain rfl : a = c := by omega
            have HR2 := Lib.hid (readsq_last HK.out HR.out (by omega) rfl (t := a) rfl (Nat.le_refl _))
            go_wp2_with fail
            clear hlt'
            refine (whole_any _ w X GL GH B p A cp (a + 1) m a 6 gx _ HM.out (by omega) (.head _)).mono ?_
            generalize wholeI LS.fq m a 6 = m2 at *
            rintro e w3 ⟨rfl, hM⟩
            have HM3 := Lib.hid hM
            have HMN := Lib.hid (manyq_none HR2.out (a + 1))
            clear hM HM HR
            have bx : w3.cell? ⟨gx, 0, none⟩ = some (Value.pointer (some ⟨X, 0, none⟩)) := (show Row w3 gx 41 #[Value.pointer (some ⟨X, 0, none⟩)] from HM3.out.side _ (.head _)).cell_ (i := 0) rfl
            obtain ⟨cl, hx0⟩ := HM3.out.x
            obtain ⟨csh, hh0, hh1⟩ := HM3.out.h
            have x1 : w3.cell? ⟨X, 1, none⟩ = some (.slice (some ⟨GH, 0, none⟩) (a + 1) (a + 1)) := hx0.cell_ (i := 1) rfl
            have gh : w3.cell? ⟨GH, a, none⟩ = some (.int .i64 2) := by have e := hh0.cell_ (hh1 a (by omega)); rw [HR2.out.1] at e; exact e
            clear hx0 hh0 hh1
            have hidx : ((a + 1 : Nat) : Int) - 1 = ((a : Nat) : Int) := by push_cast; omega
            go_wp2_with fail
            clear bx x1 gh hidx
            refine (many_any _ w X GL GH B p A cp (a + 1) m2 1 _ HM3.out (by have := HK.out; omega)).mono ?_
            rw [HMN.out]
            rintro e w4 ⟨rfl, rfl⟩
            rw [show ((0 : Nat) : Int) = 0 from rfl]
            go_wp2_with fail
            refine (awake_any _).mono ?_
            rintro e w9 ⟨rfl, hO⟩
            have HO9 := Lib.hid (HM3.out.only.trans hO)
            clear hO
            go_wp2
            go_ret
            exact ⟨rfl, HO9.out⟩
end Go.Proofs.Ytkkldcggbekleaa
