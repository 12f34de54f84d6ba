import Derived.Deep.OwnRows
import Derived.Laws.BitsAllLaws
import Derived.Laws.BitsLemmas
import Derived.Test.YtaeninikaalkjaaG13
import Derived.Test.YtaeninikaalkjaaG1
import Derived.Test.YtaeninikaalkjaaG2
import Derived.Test.YtaeninikaalkjaaG8
namespace Go.Proofs.Ytaeninikaalkjaa
open Go.RowKit
def wordI (k : Int) (c : Nat) (b : Int) : Int :=
  if k = 1 ∧ c ≤ 2 then b else if k = 2 ∧ c ≤ 1 then b * 256 % 4294967296 else if k = 2 ∧ c ≤ 4 then b else if k = 3 ∧ c ≤ 1 then b * 256 % 4294967296 else if k = 3 ∧ c = 3 then b
  else if k = 6 ∧ c = 0 then b % 256 * 256 + b % 256 * 65536 else 0
theorem low8 {x : Int} (hx : 0 ≤ x ∧ x < 4294967296) : bits .and .u32 x 255 = x % 256 := by
  have := bits_mask .u32 32 (by decide) (fun k h0 h1 => by rw [IntKind.wrap_u32']; omega) 8 (by omega) x hx.1 (by simpa using hx.2)
  simpa using this
theorem both8 {b : Int} (hb : 0 ≤ b ∧ b < 4294967296) :
    bits BinOp.or IntKind.u32 (bits BinOp.and IntKind.u32 b 255 * 256 % 4294967296) (bits BinOp.and IntKind.u32 b 255 * 65536 % 4294967296) = b % 256 * 256 + b % 256 * 65536 := by
  rw [low8 hb]
  obtain ⟨X, hX⟩ := Int.eq_ofNat_of_zero_le (show 0 ≤ b % 256 by omega)
  have hX' : X < 256 := by omega
  rw [hX, show (X : Int) * 256 % 4294967296 = ((X * 256 : Nat) : Int) by omega, show (X : Int) * 65536 % 4294967296 = ((X * 65536 : Nat) : Int) by omega,
    u32_or_nat _ _ (by omega) (by omega), Nat.or_comm, nat_join 16 _ _ (by omega) (by omega)]
  omega
theorem firstWord_one (k : Int) (c : Nat) (s : ByteArray) (b : Int) (w : World) (hk : 1 ≤ k ∧ k ≤ 6) (hs : (ownV k)[c]? = some (.string s)) (hb : 0 ≤ b ∧ b < 4294967296) :
    Calls Try.prog 19 #[.int .i64 k, .string s, .int .u32 b] w fun e w' => e = .returned (.int .u32 (wordI k c b)) ∧ w = w' := by
  obtain ⟨b1, b2⟩ := hb
  rcases kinds hk with rfl | rfl | rfl | rfl | rfl | rfl
  · clear hk
    have hc : c < 3 := (Array.getElem?_eq_some_iff.1 hs).1
    rcases (show c = 0 ∨ c = 1 ∨ c = 2 by omega) with rfl | rfl | rfl
    all_goals
      injection (Option.some.inj hs) with hs
      subst hs
      go_enter Try.func19, Try.ntmps19
      go_wp2
      go_ret
      first | exact ⟨rfl, rfl⟩ | (refine ⟨ret_int ?_, rfl⟩; simp [wordI]; done) | (refine ⟨ret_int ?_, rfl⟩; simp [wordI]; exact both8 ⟨b1, b2⟩)
  · clear hk
    have hc : c < 5 := (Array.getElem?_eq_some_iff.1 hs).1
    rcases (show c = 0 ∨ c = 1 ∨ c = 2 ∨ c = 3 ∨ c = 4 by omega) with rfl | rfl | rfl | rfl | rfl
    all_goals
      injection (Option.some.inj hs) with hs
      subst hs
      go_enter Try.func19, Try.ntmps19
      go_wp2
      go_ret
      first | exact ⟨rfl, rfl⟩ | (refine ⟨ret_int ?_, rfl⟩; simp [wordI]; done) | (refine ⟨ret_int ?_, rfl⟩; simp [wordI]; exact both8 ⟨b1, b2⟩)
  · clear hk
    have hc : c < 4 := (Array.getElem?_eq_some_iff.1 hs).1
    rcases (show c = 0 ∨ c = 1 ∨ c = 2 ∨ c = 3 by omega) with rfl | rfl | rfl | rfl
    all_goals
      injection (Option.some.inj hs) with hs
      subst hs
      go_enter Try.func19, Try.ntmps19
      go_wp2
      go_ret
      first | exact ⟨rfl, rfl⟩ | (refine ⟨ret_int ?_, rfl⟩; simp [wordI]; done) | (refine ⟨ret_int ?_, rfl⟩; simp [wordI]; exact both8 ⟨b1, b2⟩)
  · clear hk
    have hc : c < 2 := (Array.getElem?_eq_some_iff.1 hs).1
    rcases (show c = 0 ∨ c = 1 by omega) with rfl | rfl
    all_goals
      injection (Option.some.inj hs) with hs
      subst hs
      go_enter Try.func19, Try.ntmps19
      go_wp2
      go_ret
      first | exact ⟨rfl, rfl⟩ | (refine ⟨ret_int ?_, rfl⟩; simp [wordI]; done) | (refine ⟨ret_int ?_, rfl⟩; simp [wordI]; exact both8 ⟨b1, b2⟩)
  · clear hk
    have hc : c < 1 := (Array.getElem?_eq_some_iff.1 hs).1
    rcases (show c = 0 by omega) with rfl
    all_goals
      injection (Option.some.inj hs) with hs
      subst hs
      go_enter Try.func19, Try.ntmps19
      go_wp2
      go_ret
      first | exact ⟨rfl, rfl⟩ | (refine ⟨ret_int ?_, rfl⟩; simp [wordI]; done) | (refine ⟨ret_int ?_, rfl⟩; simp [wordI]; exact both8 ⟨b1, b2⟩)
  · clear hk
    have hc : c < 1 := (Array.getElem?_eq_some_iff.1 hs).1
    rcases (show c = 0 by omega) with rfl
    all_goals
      injection (Option.some.inj hs) with hs
      subst hs
      go_enter Try.func19, Try.ntmps19
      go_wp2
      go_ret
      first | exact ⟨rfl, rfl⟩ | (refine ⟨ret_int ?_, rfl⟩; simp [wordI]; done) | (refine ⟨ret_int ?_, rfl⟩; simp [wordI]; exact both8 ⟨b1, b2⟩)
-- FIRST
theorem infoF : (Try.prog.info? 22).map (fun i => (i.zero, i.size, i.bytes)) = some (some (.int .u32 0), 1, 4) := by kernel_rfl
def words (k : Int) (S c : Nat) (b : Int) : List Int := (List.range S).map fun j => if j < c then wordI k j b else 0
def cellsOf (l : List Int) : Array Value := (l.map (Value.int .u32)).toArray
theorem words_zero (k : Int) (S : Nat) (b : Int) : words k S 0 b = List.replicate S 0 := by
  apply List.ext_getElem
  · simp [words]
  · intro i h1 h2; simp [words]
theorem words_at (k : Int) (S c : Nat) (b : Int) (h : c < S) : (cellsOf (words k S c b))[c]? = some (.int .u32 0) := by
  simp [cellsOf, words, h]
theorem words_next (k : Int) (S c : Nat) (b : Int) : (cellsOf (words k S c b)).setIfInBounds c (.int .u32 (wordI k c b)) = cellsOf (words k S (c + 1) b) := by
  apply Array.ext_getElem?
  intro i
  rw [Array.getElem?_setIfInBounds]
  by_cases hi : c = i
  · subst hi
    by_cases hS : c < S
    · simp [cellsOf, words, hS]
    · simp [cellsOf, words, hS]
  · simp only [hi, if_false]
    simp only [cellsOf, words, List.getElem?_toArray, List.getElem?_map]
    rcases Nat.lt_or_ge i S with h | h
    · rw [List.getElem?_range h]
      simp only [Option.map_some]
      by_cases h2 : i < c
      · rw [if_pos h2, if_pos (by omega)]
      · rw [if_neg h2, if_neg (by omega)]
    · rw [List.getElem?_eq_none (by simpa using h)]
      rfl
theorem made_is (k : Int) (S : Nat) (b : Int) : madeCells #[.int .u32 0] S = cellsOf (words k S 0 b) := by
  apply Array.ext'
  rw [toList_madeCells_one, words_zero]
  simp [cellsOf]
def FirstAt (k b : Int) (S : Nat) (w : World) (e : Ending) (w' : World) : Prop :=
  ∃ g, e = .returned (.tuple #[.slice (some ⟨g, 0, none⟩) S S, .int .i64 0]) ∧ w.heap.size ≤ g ∧ Row w' g 22 (cellsOf (words k S (ownV k).size b)) ∧ Only Nil w w'
set_option maxHeartbeats 1000000 in
theorem first_yes (k n b : Int) (S : Nat) (w : World) (hk : 1 ≤ k ∧ k ≤ 6) (hn : 1 ≤ n ∧ n ≤ 64) (hS : sizeI n = S) (hb : 0 ≤ b ∧ b < 4294967296) :
    Calls Try.prog 7 #[.int .i64 k, .int .i64 n, .int .u32 b] w (FirstAt k b S w) := by
  have hz : sizeI n = 8 + 4 * n := if_pos hn
  have s1 : 12 ≤ S := by omega
  have s2 : S ≤ 300 := by omega
  have HS := Lib.hid hS
  have HB := Lib.hid hb
  have HK := Lib.hid hk
  have HN := Lib.hid hn
  clear hz hS hb hk hn
  have hmk := fun W => run_make_row' (P := Try.prog) 25 22 (.int .u32 0) 4 Try.underlying25 infoF rfl .i64 .i64 S (by omega) (by omega) W
  have qT : ∀ (w : World) (a : Option Addr) (n c n' c' : Nat), (binOp .eql 65 (.slice a n c) (.slice none n' c')).run Try.prog w = .ok (.bool a.isNone) w := fun w a n c n' c' => Lib.run_eql_slice_nil w _ _ a n c n' c' Try.underlying65
  go_enter Try.func7, Try.ntmps7
  go_wp2_with fail
  refine (ownNames_yes k _ HK.out).mono ?_
  intro e w1 hF
  obtain ⟨gn, rfl, hgn, hR, hO⟩ := hF
  have HL := Lib.hid (own_size k HK.out)
  have HA := Lib.hid (name_at k HK.out)
  have HWX := Lib.hid (firstWord_one k)
  generalize hLe : (ownV k).size = L at *
  have HLE := Lib.hid hLe
  have HR1 := Lib.hid hR
  have HO1 := Lib.hid hO
  have HG := Lib.hid hgn
  clear hLe hR hO hgn
  go_wp2_with fail
  refine (new_yes n _ HN.out).mono ?_
  rintro e w2 ⟨rfl, hO⟩
  have HO2 := Lib.hid ((HO1.out.trans hO).alloc (.cells #[.int .i64 n] 57))
  have HR2 := Lib.hid ((HR1.out.only hO id).alloc (.cells #[.int .i64 n] 57))
  clear hO
  go_wp2_with fail
  refine (size_any n _).mono ?_
  rw [HS.out]
  rintro e w3 ⟨rfl, hO⟩
  have HO3 := Lib.hid (HO2.out.trans hO)
  have HR3 := Lib.hid (HR2.out.only hO id)
  clear hO
  go_wp2
  have HM : Hid (Row (w3.alloc (.cells (madeCells #[.int .u32 0] S) 22)) w3.heap.size 22 (cellsOf (words k S 0 b))) := Lib.hid (by rw [← made_is]; exact Row.new _ _ _)
  have HO4 := Lib.hid (HO3.out.alloc (.cells (madeCells #[.int .u32 0] S) 22))
  have HR4 := Lib.hid (HR3.out.alloc (.cells (madeCells #[.int .u32 0] S) 22))
  have l1 := HL.out.1
  have l2 := HL.out.2
  have HZ := Lib.hid (show w.heap.size ≤ w3.heap.size ∧ gn < w3.heap.size from ⟨HO3.out.size, HR3.out.lt⟩)
  generalize w3.heap.size = gw at *
  clear hmk qT
  go_loopw [31] (fun i wr => ∃ c : Nat, c ≤ L ∧ i = .int .i64 c ∧ Row wr gw 22 (cellsOf (words k S c b)) ∧ Row wr gn 9 (ownV k) ∧ Only Nil w wr) (fun i _ => L - (intOf i).toNat)
  case atStart => exact ⟨0, Nat.zero_le _, rfl, HM.out, HR4.out, HO4.out⟩
  case round =>
    obtain ⟨c, hc, rfl, hrw, hrn, hor⟩ := hrel
    have HRW := Lib.hid hrw
    have HRN := Lib.hid hrn
    have HOR := Lib.hid hor
    clear hrw hrn hor
    by_cases hlt : c < L
    · obtain ⟨s, hs⟩ := HA.out c hlt
      have hcs : c < S := by omega
      have c0 := HRN.out.cell_ hs
      have c1 := HRW.out.cell_ (words_at k S c b hcs)
      have f1 := HRW.out.frozen c
      have HSS := Lib.hid hs
      clear hs
      go_wp2_with fail
      refine (HWX.out c s b _ HK.out HSS.out HB.out).mono ?_
      rintro e w' ⟨rfl, rfl⟩
      generalize hwd : wordI k c b = wd
      have HWD := Lib.hid hwd
      clear hwd
      go_wp2
      have hfin := HRW.out.set c (.int .u32 wd)
      rw [← HWD.out, words_next] at hfin
      refine ⟨⟨c + 1, by omega, by go_num, by rw [← HWD.out]; exact hfin, HRN.out.far (by have := HZ.out.2; simp; omega) _, HOR.out.setCell (p := ⟨gw, c, none⟩) (.inl HZ.out.1) _⟩, by simp [intOf]; omega⟩
    · have hkn : c = L := by omega
      have HC := Lib.hid hkn
      clear hkn
      go_wp2
      go_ret2
      refine ⟨gw, rfl, HZ.out.1, ?_, HOR.out⟩
      rw [HLE.out, ← HC.out]
      exact HRW.out
-- REF
end Go.Proofs.Ytaeninikaalkjaa
set_option linter.unusedVariables false
set_option linter.unusedSimpArgs false
namespace Go.Proofs.Ytaeninikaalkjaa
open Go.RowKit
theorem Row.ints {w : World} {g : Nat} {t : TypeId} {k : IntKind} {xs : List Int} (h : Row w g t ((xs.map (Value.int k)).toArray)) : Ints w w.heap.size k (some ⟨g, 0, none⟩) xs := fun _ => by
  refine ⟨g, 0, rfl, h.lt, fun i hi => ?_⟩
  rw [Nat.zero_add]
  refine h.cell_ ?_
  simp [List.getD, List.getElem?_eq_getElem hi]
end Go.Proofs.Ytaeninikaalkjaa
set_option linter.unusedVariables false
set_option linter.unusedSimpArgs false
namespace Go.Proofs.Ytaeninikaalkjaa
open Go.RowKit
def NoWatch (k : Nat) (xs : List Int) : Prop := ∀ i : Nat, i < k → there xs (wc k i) = true ∧ wordAt xs (wc k i) = 0
section
variable {chk : LS → Bool} {L : LS → LS} {r : LS}
theorem alone_sweepQ (hk0 : Chk chk) {xs : List Int} {k : Nat} (hk : 1 ≤ k ∧ k ≤ 64) {c : Int} (hc : 0 ≤ c ∧ c < 8) (hW : NoWatch k xs) (m : Nat) : ∀ (j : Nat) (r : LS), j < k → r.n = k → r.xs = xs → r.k = ⟨true, c, ((k - 1 - j : Nat) : Int), false⟩ → r.s = 0 →
    0 < m ∨ r.ret ≠ 0 → aloneG chk L (j + 1 + m) r = if r.ret ≠ 0 then (r.ret, r.xs) else aloneG chk L m { r with k := wk0 } := by
  intro j
  induction j with
  | zero =>
    intro r hj hn hx hr hs0 hm
    have hw : r.next L = { r with acc := ofV r.wakeR.acc, ns := [], k := wk0 } := by
      unfold LS.next
      rw [show r.k.on = true by rw [hr], if_pos rfl]
      unfold LS.waking LS.wakeR
      rw [hr, hn, hx]
      have hcl := hW (k - 1 - 0) (by omega)
      simp only [wakeI, lookI, if_true, hcl.1, hcl.2, Bool.false_eq_true, if_false]
      rw [if_neg (by omega)]
      simp only [nextI]
      rw [if_pos (by omega)]
    by_cases hret : r.ret = 0
    · rw [if_neg (by simpa using hret)]
      have hm0 : 0 < m := by rcases hm with h | h; exact h; exact absurd hret h
      rw [show 0 + 1 + m = m + 1 by omega, alone_on hk0 hs0 (by rw [hw]; simp [LS.over, hret]), hw]
      exact alone_like hk0 hm0 rfl
    · rw [if_pos hret, show 0 + 1 + m = m + 1 by omega, alone_end hk0 hs0 (by rw [hw]; simp [LS.over, hret, wk0]), hw]
  | succ j ih =>
    intro r hj hn hx hr hs0 hm
    have hw : r.next L = { r with acc := ofV r.wakeR.acc, ns := [], k := ⟨true, c, ((k - 1 - j : Nat) : Int), false⟩ } := by
      unfold LS.next
      rw [show r.k.on = true by rw [hr], if_pos rfl]
      unfold LS.waking LS.wakeR
      rw [hr, hn, hx]
      have hcl := hW (k - 1 - (j + 1)) (by omega)
      simp only [wakeI, lookI, if_true, hcl.1, hcl.2, Bool.false_eq_true, if_false]
      rw [if_neg (by omega)]
      simp only [nextI]
      rw [if_neg (by omega), show ((k - 1 - (j + 1) : Nat) : Int) + 1 = ((k - 1 - j : Nat) : Int) by omega]
    rw [show j + 1 + 1 + m = (j + 1 + m) + 1 by omega, alone_on hk0 hs0 (by rw [hw]; simp [LS.over]), hw]
    refine (ih { r with acc := ofV r.wakeR.acc, ns := [], k := ⟨true, c, ((k - 1 - j : Nat) : Int), false⟩ } (by omega) hn hx rfl hs0 hm).trans ?_
    by_cases hret : r.ret = 0
    · rw [if_neg (by simpa using hret), if_neg (by simpa using hret)]
      exact alone_like hk0 (hm.resolve_right (by simpa using hret)) rfl
    · rw [if_pos hret, if_pos hret]
theorem alone_doneQ (hk0 : Chk chk) {k : Nat} (hk : 1 ≤ k ∧ k ≤ 64) {c : Int} (hc : 0 ≤ c ∧ c < 8) {m : Nat} {r r' : LS} {mode : Int} (he : r.next L = r') (hn : r'.n = k) (hW : NoWatch k r'.xs) (hr : r'.k = beginI mode c) (hret : r'.ret ≠ 0) (hs0 : r.s = 0) (hs1 : r'.s = 0) (hm : k < m) :
    aloneG chk L m r = (r'.ret, r'.xs) := by
  obtain ⟨m, rfl⟩ : ∃ q, m = q + 1 := ⟨m - 1, by omega⟩
  by_cases h2 : mode = 2
  · subst h2
    rw [alone_on hk0 hs0 (by rw [he]; simp [LS.over, hr, beginI_2]), he]
    have e := alone_sweepQ (L := L) hk0 hk hc hW (m - k) (k - 1) r' (by omega) hn rfl (by rw [hr, beginI_2]; simp) hs1 (.inr hret)
    rw [show k - 1 + 1 + (m - k) = m by omega, if_pos hret] at e
    exact e
  · rw [beginI_no h2] at hr
    rw [alone_end hk0 hs0 (by rw [he]; simp [LS.over, hr, wk0, hret]), he]
end
end Go.Proofs.Ytaeninikaalkjaa
set_option linter.unusedVariables false
set_option linter.unusedSimpArgs false
namespace Go.Proofs.Ytaeninikaalkjaa
open Go.RowKit
theorem stepI_seen {xs : List Int} {n mode i c : Int} {q : Int → Bool} (h : q (wordAt xs c) = true) : (stepI xs n mode i 0 c q).next = 0 ∧ (stepI xs n mode i 0 c q).seen = true ∧ (stepI xs n mode i 0 c q).done = true ∧ (stepI xs n mode i 0 c q).xs = xs := by
  by_cases hm : mode = 2
  · subst hm
    rw [stepI_0 (by decide) (by decide) (by decide) (by decide), h]
    exact ⟨rfl, rfl, rfl, rfl⟩
  · rw [stepI_spin hm, h]
    exact ⟨rfl, rfl, rfl, rfl⟩
end Go.Proofs.Ytaeninikaalkjaa
set_option linter.unusedVariables false
set_option linter.unusedSimpArgs false
namespace Go.Proofs.Ytaeninikaalkjaa
structure QS where
  tail : Int
  nx : Nat → Int
  bl : Nat → Int
  ph : Nat → Nat
  pr : Nat → Int
structure QInv (k m : Nat) (q : Nat → Nat) (s : QS) : Prop where
  nd : ∀ i j, i < m → j < m → q i = q j → i = j
  lt : ∀ i, i < m → q i < k
  tl : s.tail = if m = 0 then 0 else ((q (m - 1) : Nat) : Int) + 1
  inq : ∀ i, i < m → s.ph (q i) ≠ 0
  out : ∀ t, t < k → s.ph t ≠ 0 → ∃ j, j < m ∧ q j = t
  hd : 0 < m → s.ph (q 0) = 5 ∨ (s.ph (q 0) = 4 ∧ s.bl (q 0) = 0)
  pair : ∀ j, j + 1 < m → s.bl (q (j + 1)) = 1 ∧ ((s.ph (q (j + 1)) = 3 ∧ s.pr (q (j + 1)) = ((q j : Nat) : Int) + 1 ∧ s.nx (q j) = 0) ∨ (s.ph (q (j + 1)) = 4 ∧ s.nx (q j) = ((q (j + 1) : Nat) : Int) + 1))
  last : 0 < m → s.nx (q (m - 1)) = 0
section
variable {k m t : Nat} {q : Nat → Nat} {s : QS}
theorem QInv.first (h : QInv k m q s) (ht : t < k) (h5 : s.ph t = 5) : 0 < m ∧ q 0 = t := by
  obtain ⟨j, hj, e⟩ := h.out t ht (by omega)
  cases j with
  | zero => exact ⟨hj, e⟩
  | succ j =>
    have := (h.pair j hj).2
    rw [e, h5] at this
    omega
theorem QInv.free (h : QInv k m q s) (ht : t < k) (h4 : s.ph t = 4) (hb : s.bl t = 0) : 0 < m ∧ q 0 = t := by
  obtain ⟨j, hj, e⟩ := h.out t ht (by omega)
  cases j with
  | zero => exact ⟨hj, e⟩
  | succ j =>
    have := (h.pair j hj).1
    rw [e, hb] at this
    omega
theorem QInv.own (h : QInv k m q s) (ht : t < k) (h0 : s.ph t = 0) (x y : Int) : QInv k m q { s with nx := upd s.nx t x, bl := upd s.bl t y } := by
  have far : ∀ i, i < m → q i ≠ t := fun i hi e => h.inq i hi (by rw [e]; exact h0)
  refine ⟨h.nd, h.lt, h.tl, h.inq, h.out, fun hm => ?_, fun j hj => ?_, fun hm => ?_⟩
  · show _ ∨ (_ ∧ upd s.bl t y (q 0) = 0)
    rw [upd_other _ _ (far 0 hm)]; exact h.hd hm
  · show upd s.bl t y (q (j + 1)) = 1 ∧ ((_ ∧ _ ∧ upd s.nx t x (q j) = 0) ∨ (_ ∧ upd s.nx t x (q j) = _))
    rw [upd_other _ _ (far _ hj), upd_other _ _ (far j (by omega))]; exact h.pair j hj
  · show upd s.nx t x (q (m - 1)) = 0
    rw [upd_other _ _ (far _ (by omega))]; exact h.last hm
theorem QInv.enter (h : QInv k m q s) (ht : t < k) (h4 : s.ph t = 4) (hb : s.bl t = 0) : 0 < m ∧ q 0 = t ∧ QInv k m q { s with ph := upd s.ph t 5 } := by
  obtain ⟨hm, e⟩ := h.free ht h4 hb
  have far : ∀ j, j + 1 < m → q (j + 1) ≠ t := fun j hj e2 => by have := h.nd 0 (j + 1) hm hj (by rw [e, e2]); omega
  refine ⟨hm, e, h.nd, h.lt, h.tl, fun i hi => ?_, fun u hu h1 => ?_, fun _ => .inl ?_, fun j hj => ?_, h.last⟩
  · show upd s.ph t 5 (q i) ≠ 0
    by_cases e2 : q i = t
    · rw [e2, upd_same]; omega
    · rw [upd_other _ _ e2]; exact h.inq i hi
  · have h1' : upd s.ph t 5 u ≠ 0 := h1
    by_cases e2 : u = t
    · exact ⟨0, hm, by rw [e, e2]⟩
    · rw [upd_other _ _ e2] at h1'
      exact h.out u hu h1'
  · show upd s.ph t 5 (q 0) = 5
    rw [e, upd_same]
  · show s.bl (q (j + 1)) = 1 ∧ ((upd s.ph t 5 (q (j + 1)) = 3 ∧ _ ∧ _) ∨ (upd s.ph t 5 (q (j + 1)) = 4 ∧ _))
    rw [upd_other _ _ (far j hj)]
    exact h.pair j hj
end
end Go.Proofs.Ytaeninikaalkjaa
set_option linter.unusedVariables false
set_option linter.unusedSimpArgs false
namespace Go.Proofs.Ytaeninikaalkjaa
section
variable {xs : List Int} {c d x y n mode i s : Int} {q : Int → Bool}
theorem own_wait (h1 : wc n i ≠ d) (h2 : pc n i ≠ d) : wordAt (stepI xs n mode i s c q).xs d = wordAt xs d := by
  unfold stepI
  (repeat' split) <;> first | rfl | exact word_far _ h1 | exact word_far _ h2
theorem own_wake {on hit : Bool} (h2 : pc n i ≠ d) : wordAt (wakeI xs n on c i hit).xs d = wordAt xs d := by
  unfold wakeI giveI lookI restI
  (repeat' split) <;> first | rfl | exact word_far _ h2
end
end Go.Proofs.Ytaeninikaalkjaa
set_option linter.unusedVariables false
set_option linter.unusedSimpArgs false
namespace Go.Proofs.Ytaeninikaalkjaa
def sumN (f : Nat → Nat) : Nat → Nat
  | 0 => 0
  | k + 1 => sumN f k + f k
theorem sumN_congr {f g : Nat → Nat} : ∀ {k : Nat}, (∀ i, i < k → f i = g i) → sumN f k = sumN g k
  | 0, _ => rfl
  | k + 1, h => by
    show sumN f k + f k = sumN g k + g k
    rw [sumN_congr (k := k) (fun i hi => h i (by omega)), h k (by omega)]
theorem sumN_upd {f g : Nat → Nat} {t : Nat} : ∀ {k : Nat}, t < k → (∀ i, i < k → i ≠ t → g i = f i) → sumN g k + f t = sumN f k + g t
  | 0, h, _ => absurd h (Nat.not_lt_zero _)
  | k + 1, h, ho => by
    show sumN g k + g k + f t = sumN f k + f k + g t
    by_cases e : t = k
    · subst e
      rw [sumN_congr (f := g) (g := f) (k := t) (fun i hi => ho i (by omega) (by omega))]
      omega
    · have := sumN_upd (f := f) (g := g) (t := t) (k := k) (by omega) (fun i hi hn => ho i (by omega) hn)
      have := ho k (by omega) (by omega)
      omega
theorem sumN_le {f g : Nat → Nat} : ∀ {k : Nat}, (∀ i, i < k → f i ≤ g i) → sumN f k ≤ sumN g k
  | 0, _ => Nat.le_refl _
  | k + 1, h => Nat.add_le_add (sumN_le (k := k) fun i hi => h i (by omega)) (h k (by omega))
theorem sumN_zero {f : Nat → Nat} : ∀ {k : Nat}, (∀ i, i < k → f i = 0) → sumN f k = 0
  | 0, _ => rfl
  | k + 1, h => by
    show sumN f k + f k = 0
    rw [sumN_zero (k := k) (fun i hi => h i (by omega)), h k (by omega)]
theorem sumN_at {f : Nat → Nat} {i : Nat} : ∀ {k : Nat}, i < k → f i ≤ sumN f k
  | 0, h => absurd h (Nat.not_lt_zero _)
  | k + 1, h => by
    show f i ≤ sumN f k + f k
    by_cases e : i = k
    · subst e; omega
    · have := sumN_at (f := f) (i := i) (k := k) (by omega); omega
theorem sumN_const {c : Nat} : ∀ {k : Nat}, sumN (fun _ => c) k = k * c
  | 0 => by simp [sumN]
  | k + 1 => by
    show sumN (fun _ => c) k + c = (k + 1) * c
    rw [sumN_const, Nat.add_mul, Nat.one_mul]
theorem sumN_add {f g : Nat → Nat} : ∀ {k : Nat}, sumN (fun i => f i + g i) k = sumN f k + sumN g k
  | 0 => rfl
  | k + 1 => by
    show sumN (fun i => f i + g i) k + (f k + g k) = sumN f k + f k + (sumN g k + g k)
    rw [sumN_add]; omega
theorem holes_le (tk : Nat → Nat) (k lo : Nat) : ∀ (n : Nat) (f : Nat → Nat), (∀ i, i < k → f i ≤ 1) → (∀ i, i < k → f i = 1 → lo ≤ tk i ∧ tk i < lo + n) → (∀ i j, i < k → j < k → f i = 1 → f j = 1 → tk i = tk j → i = j) → sumN f k ≤ n := by
  intro n
  induction n with
  | zero =>
    intro f h1 hr _
    refine Nat.le_of_eq (sumN_zero fun i hi => ?_)
    by_cases e : f i = 1
    · have := hr i hi e; omega
    · have := h1 i hi; omega
  | succ n ih =>
    intro f h1 hr hd
    by_cases hg : ∃ i, i < k ∧ f i = 1 ∧ tk i = lo + n
    · obtain ⟨g, hgk, hgf, hgt⟩ := hg
      have hu := sumN_upd (f := f) (g := upd f g 0) (t := g) (k := k) hgk (fun i _ hi => upd_other f 0 hi)
      rw [upd_same] at hu
      have other : ∀ i, i < k → upd f g 0 i = 1 → i ≠ g ∧ f i = 1 := fun i hi hf => by
        by_cases e : i = g
        · rw [e, upd_same] at hf; omega
        · rw [upd_other f 0 e] at hf; exact ⟨e, hf⟩
      have := ih (upd f g 0)
        (fun i hi => by
          by_cases e : i = g
          · rw [e, upd_same]; omega
          · rw [upd_other f 0 e]; exact h1 i hi)
        (fun i hi hf => by
          obtain ⟨e, hf⟩ := other i hi hf
          have := hr i hi hf
          have hne : tk i ≠ tk g := fun h => e (hd i g hi hgk hf hgf h)
          omega)
        (fun i j hi hj hfi hfj h => hd i j hi hj (other i hi hfi).2 (other j hj hfj).2 h)
      omega
    · have := ih f h1 (fun i hi hf => by
        have := hr i hi hf
        have hne : tk i ≠ lo + n := fun h => hg ⟨i, hi, hf, h⟩
        omega) hd
      omega
theorem holes {tk f : Nat → Nat} {k lo n : Nat} (h1 : ∀ i, i < k → f i ≤ 1) (hr : ∀ i, i < k → f i = 1 → lo ≤ tk i ∧ tk i < lo + n) (hd : ∀ i j, i < k → j < k → f i = 1 → f j = 1 → tk i = tk j → i = j) (hs : sumN f k = n) (hn : 0 < n) : ∃ i, i < k ∧ f i = 1 ∧ tk i = lo := by
  by_cases hg : ∃ i, i < k ∧ f i = 1 ∧ tk i = lo
  · exact hg
  · exfalso
    have := holes_le tk k (lo + 1) (n - 1) f h1 (fun i hi hf => by
      have := hr i hi hf
      have hne : tk i ≠ lo := fun h => hg ⟨i, hi, hf, h⟩
      omega) hd
    omega
end Go.Proofs.Ytaeninikaalkjaa
set_option linter.unusedVariables false
set_option linter.unusedSimpArgs false
namespace Go.Proofs.Ytaeninikaalkjaa
def LS.finH (h : Int) (r : LS) : Int := if r.over then behindI r.op r.ret h else h
def LS.finR (r : LS) : LS := if r.over then zeroF r 0 else r
theorem go_eq {L : LS → LS} {m : MV} {t : Nat} (hs : (m.at t).stuck = false) : m.go L t = ⟨upd m.rs t ((m.at t).next L).finR, upd m.hold t (((m.at t).next L).finH (m.hold t)), ((m.at t).next L).xs⟩ := by
  unfold MV.go LS.finR LS.finH
  rw [if_neg (by rw [hs]; exact Bool.false_ne_true)]
  split
  · show (⟨upd (upd m.rs t _) t _, upd m.hold t _, _⟩ : MV) = _
    have e : ∀ (f : Nat → LS) (u v : LS), upd (upd f t u) t v = upd f t v := fun f u v => by
      funext i; unfold upd; split <;> rfl
    rw [e]
    rfl
  · show (⟨upd m.rs t _, m.hold, _⟩ : MV) = _
    have e : upd m.hold t (m.hold t) = m.hold := by
      funext i; unfold upd; split
      · rename_i h; rw [h]
      · rfl
    rw [e]
section
variable {k : Nat} {xs : List Int} {t i : Nat} {mode s c d idx : Int} {q : Int → Bool} {on hit : Bool}
theorem wc_at (hk : k ≤ 64) (hi : i < k) : wc (k : Int) (i : Int) = 8 + 2 * k + i := by unfold wc cellI; rw [if_pos (by omega)]
theorem pc_at (hk : k ≤ 64) (hi : i < k) : pc (k : Int) (i : Int) = 8 + 3 * k + i := by unfold pc cellI; rw [if_pos (by omega)]
theorem there_lk (hl : xs.length = 8 + 4 * k) (h0 : 0 ≤ d) (h1 : d < 8 + 4 * k) : there xs d = true := by unfold there; rw [decide_eq_true_eq, hl]; push_cast; omega
theorem step_wat (hk : k ≤ 64) (hl : xs.length = 8 + 4 * k) (ht : t < k) (hi : i < k) : wordAt (stepI xs k mode t s c q).xs (wc k i) = if i = t ∧ mode = 2 ∧ s = 1 then (c + 1) % 4294967296 else if i = t ∧ mode = 2 ∧ s = 4 then 0 else wordAt xs (wc k i) := by
  have hw : ∀ j : Nat, j < k → there xs (wc k j) = true := fun j hj => there_lk hl (by rw [wc_at hk hj]; omega) (by rw [wc_at hk hj]; omega)
  have hne : ∀ j : Nat, j < k → i ≠ j → wc (k : Int) j ≠ wc k i := fun j hj e => by rw [wc_at hk hj, wc_at hk hi]; omega
  have hpw : ∀ j : Nat, j < k → pc (k : Int) j ≠ wc k i := fun j hj => by rw [pc_at hk hj, wc_at hk hi]; omega
  by_cases hm : mode = 2
  · subst hm
    by_cases h1 : s = 1
    · subst h1
      rw [stepI_1]
      by_cases e : i = t
      · subst e; simp [word_st, hw i hi]
      · show wordAt (st _ _ _) _ = _
        rw [word_far _ (hne t ht e)]; simp [e]
    by_cases h2 : s = 2
    · subst h2; rw [stepI_2]; simp
    by_cases h3 : s = 3
    · subst h3; rw [stepI_3]
      show wordAt (st _ _ _) _ = _
      rw [word_far _ (hpw t ht)]; simp
    by_cases h4 : s = 4
    · subst h4
      rw [stepI_4]
      by_cases e : i = t
      · subst e; simp [word_st, hw i hi]
      · show wordAt (st _ _ _) _ = _
        rw [word_far _ (hne t ht e)]; simp [e]
    · rw [stepI_0 h1 h2 h3 h4]; simp [h1, h4]
  · rw [stepI_spin hm]; simp [hm]
theorem step_per (hk : k ≤ 64) (hl : xs.length = 8 + 4 * k) (ht : t < k) (hi : i < k) : hasP (stepI xs k mode t s c q).xs k i = if i = t ∧ mode = 2 ∧ s = 3 then false else hasP xs k i := by
  have hw : there xs (pc k i) = true := there_lk hl (by rw [pc_at hk hi]; omega) (by rw [pc_at hk hi]; omega)
  have hwp : wc (k : Int) t ≠ pc k i := by rw [pc_at hk hi, wc_at hk ht]; omega
  have far : ∀ u, hasP (st xs (wc k t) u) k i = hasP xs k i := fun u => by unfold hasP; rw [word_far _ hwp]
  by_cases hm : mode = 2
  · subst hm
    by_cases h1 : s = 1
    · subst h1; rw [stepI_1]
      show hasP (st _ _ _) _ _ = _
      rw [far]; simp
    by_cases h2 : s = 2
    · subst h2; rw [stepI_2]; simp
    by_cases h3 : s = 3
    · subst h3
      rw [stepI_3]
      by_cases e : i = t
      · subst e; simp [hasP_st _ hw]
      · show hasP (st _ _ _) _ _ = _
        rw [hasP_far _ (by rw [pc_at hk ht, pc_at hk hi]; omega)]; simp [e]
    by_cases h4 : s = 4
    · subst h4; rw [stepI_4]
      show hasP (st _ _ _) _ _ = _
      rw [far]; simp
    · rw [stepI_0 h1 h2 h3 h4]; simp [h3]
  · rw [stepI_spin hm]; simp [hm]
theorem wake_wat (hk : k ≤ 64) (h0 : 0 ≤ idx) (h1 : idx < k) (hi : i < k) : wordAt (wakeI xs k on c idx hit).xs (wc k i) = wordAt xs (wc k i) := by
  obtain ⟨j, rfl⟩ := Int.eq_ofNat_of_zero_le h0
  have hp : pc (k : Int) (j : Int) ≠ wc k i := by rw [pc_at hk (by omega), wc_at hk hi]; omega
  exact own_wake hp
theorem wake_cases (hk : k ≤ 64) (hl : xs.length = 8 + 4 * k) (h1 : i < k) :
    (hit = true → (wakeI xs k true c i hit).next = nextI k c i ∧ (∀ j, j < k → hasP (wakeI xs k true c i hit).xs k j = if j = i then true else hasP xs k j)) ∧
    (hit = false → (wakeI xs k true c i hit).xs = xs ∧ ((wordAt xs (wc k i) = (c + 1) % 4294967296 ∧ (wakeI xs k true c i hit).next = ⟨true, c, i, true⟩) ∨ (wordAt xs (wc k i) ≠ (c + 1) % 4294967296 ∧ (wakeI xs k true c i hit).next = nextI k c i))) := by
  have hw : there xs (wc k i) = true := there_lk hl (by rw [wc_at hk h1]; omega) (by rw [wc_at hk h1]; omega)
  have hp : there xs (pc k i) = true := there_lk hl (by rw [pc_at hk h1]; omega) (by rw [pc_at hk h1]; omega)
  constructor
  · rintro rfl
    unfold wakeI giveI
    rw [if_pos rfl, if_pos rfl, if_pos hp]
    refine ⟨rfl, fun j hj => ?_⟩
    by_cases e : j = i
    · subst e; rw [if_pos rfl, hasP_st _ hp]; rfl
    · rw [if_neg e]; exact hasP_far _ (by rw [pc_at hk h1, pc_at hk hj]; omega)
  · rintro rfl
    unfold wakeI lookI
    rw [if_pos rfl, if_neg Bool.false_ne_true, if_pos hw]
    by_cases e : wordAt xs (wc k i) = (c + 1) % 4294967296
    · rw [if_pos e]; exact ⟨rfl, .inl ⟨e, rfl⟩⟩
    · rw [if_neg e]; exact ⟨rfl, .inr ⟨e, rfl⟩⟩
theorem wake_len0 (xs : List Int) (k c i : Int) (hit : Bool) : (wakeI xs k true c i hit).xs.length = xs.length := by
  unfold wakeI giveI lookI restI
  (repeat' split) <;> first | rfl | exact st_len _ _ _
theorem step_done0 (h : (stepI xs k mode t s c q).done = true) : (stepI xs k mode t s c q).next = 0 := by
  by_cases hm : mode = 2
  · subst hm
    by_cases h1 : s = 1
    · subst h1; cases h
    by_cases h2 : s = 2
    · subst h2; cases h
    by_cases h3 : s = 3
    · subst h3; cases h
    by_cases h4 : s = 4
    · subst h4; rfl
    · rw [stepI_0 h1 h2 h3 h4] at h ⊢
      exact if_pos h
  · rw [stepI_spin hm]
theorem step_next : ((stepI xs k mode t s c q).next = 0 ∧ ((stepI xs k mode t s c q).done = true ∨ mode ≠ 2)) ∨ (mode = 2 ∧ (stepI xs k mode t s c q).done = false ∧ (((stepI xs k mode t s c q).next = 1 ∧ s ≠ 1 ∧ s ≠ 2 ∧ s ≠ 3 ∧ s ≠ 4) ∨ ((stepI xs k mode t s c q).next = 2 ∧ (s = 1 ∨ (s = 3 ∧ hasP xs k t = true))) ∨ ((stepI xs k mode t s c q).next = 3 ∧ ((s = 2 ∧ q (wordAt xs c) = false) ∨ (s = 3 ∧ hasP xs k t = false))) ∨ ((stepI xs k mode t s c q).next = 4 ∧ s = 2 ∧ q (wordAt xs c) = true))) := by
  by_cases hm : mode = 2
  · subst hm
    by_cases h1 : s = 1
    · subst h1; exact .inr ⟨rfl, rfl, .inr (.inl ⟨rfl, .inl rfl⟩)⟩
    by_cases h2 : s = 2
    · subst h2
      rw [stepI_2]
      cases hq : q (wordAt xs c)
      · exact .inr ⟨rfl, rfl, .inr (.inr (.inl ⟨by simp, .inl ⟨rfl, rfl⟩⟩))⟩
      · exact .inr ⟨rfl, rfl, .inr (.inr (.inr ⟨by simp, rfl, rfl⟩))⟩
    by_cases h3 : s = 3
    · subst h3
      rw [stepI_3]
      cases hq : hasP xs k t
      · exact .inr ⟨rfl, rfl, .inr (.inr (.inl ⟨by simp, .inr ⟨rfl, rfl⟩⟩))⟩
      · exact .inr ⟨rfl, rfl, .inr (.inl ⟨by simp, .inr ⟨rfl, rfl⟩⟩)⟩
    by_cases h4 : s = 4
    · subst h4; exact .inl ⟨rfl, .inl rfl⟩
    · rw [stepI_0 h1 h2 h3 h4]
      cases hq : q (wordAt xs c)
      · exact .inr ⟨rfl, rfl, .inl ⟨by simp, h1, h2, h3, h4⟩⟩
      · exact .inl ⟨by simp, .inl rfl⟩
  · exact .inl ⟨by rw [stepI_spin hm], .inr hm⟩
end
def swp (k : Nat) (x : WkV) : Nat := if x.on then 5 * (k - x.i.toNat) - (if x.hit then 1 else 0) else 0
def stp (s : Int) : Nat := if s = 1 then 3 else if s = 2 then 2 else if s = 3 then 0 else if s = 4 then 1 else 4
theorem swp_off (k : Nat) {x : WkV} (h : x.on = false) : swp k x = 0 := by unfold swp; rw [h, if_neg Bool.false_ne_true]
theorem swp_begin (k : Nat) (mode c : Int) : swp k (beginI mode c) ≤ 5 * k := by
  unfold beginI swp
  split
  · simp
  · simp [wk0]
section
variable {m : MV} {t : Nat}
theorem stuck_iff (hs : (m.at t).k.on = false) (hst : (m.at t).stuck = true) : (m.rs t).mode = 2 ∧ (m.rs t).s = 3 ∧ hasP m.xs (m.rs t).n (m.rs t).task = false := by
  unfold LS.stuck stuckB at hst
  rw [hs] at hst
  simp only [Bool.not_false, Bool.true_and, Bool.and_eq_true, beq_iff_eq, Bool.not_eq_true'] at hst
  exact ⟨hst.1.1, hst.1.2, hst.2⟩
end
end Go.Proofs.Ytaeninikaalkjaa
set_option linter.unusedVariables false
set_option linter.unusedSimpArgs false
namespace Go.Proofs.Ytaeninikaalkjaa
def QOK (k : Nat) (s : QS) : Prop := ∃ m q, QInv k m q s
theorem QOK.one {k : Nat} {s : QS} (h : QOK k s) {i j : Nat} (hi : i < k) (hj : j < k) (h1 : s.ph i = 5) (h2 : s.ph j = 5) : i = j := by
  obtain ⟨m, q, h⟩ := h
  exact (h.first hi h1).2.symm.trans (h.first hj h2).2
structure WordsT (tc : Int) (k : Nat) (xs : List Int) (s : QS) : Prop where
  len : xs.length = 8 + 4 * k
  t : wordAt xs tc = s.tail
  n : ∀ i, i < k → wordAt xs (nc k i) = s.nx i
  b : ∀ i, i < k → wordAt xs (bc k i) = s.bl i
inductive TQ (s : QS) (i : Nat) : Nat → Int → Int → Prop
  | out {a st : Int} (hp : s.ph i = 0) : TQ s i 0 a st
  | e0 {a st : Int} (hp : s.ph i = 0) : TQ s i 1 a st
  | e1 {a st : Int} (hp : s.ph i = 0) (hn : s.nx i = 0) : TQ s i 2 a st
  | e2 {a st : Int} (hp : s.ph i = 0) (hn : s.nx i = 0) (hb : s.bl i = 1) : TQ s i 3 a st
  | e3 {a st : Int} (hp : s.ph i = 3) (ha : a = s.pr i) : TQ s i 4 a st
  | e4 {a st : Int} (hp : s.ph i = 4) (h4 : st = 4 → s.bl i = 0) : TQ s i 5 a st
  | own {a st : Int} (hp : s.ph i = 5) : TQ s i 6 a st
  | g0 {a st : Int} (hp : s.ph i = 5) : TQ s i 7 a st
  | g1 {a st : Int} (hp : s.ph i = 5) : TQ s i 8 a st
  | g2 {a st : Int} (hp : s.ph i = 5) (ht : s.tail ≠ (i : Int) + 1) (h4 : st = 4 → a = s.nx i ∧ s.nx i ≠ 0) : TQ s i 9 a st
  | g3 {a st : Int} (hp : s.ph i = 5) (ha : a = s.nx i) (hn : s.nx i ≠ 0) : TQ s i 10 a st
  | t0 {a st : Int} (hp : s.ph i = 0) : TQ s i 11 a st
  | t1 {a st : Int} (hp : s.ph i = 0) (hn : s.nx i = 0) : TQ s i 12 a st
structure OthQ (mode : Int) (k t : Nat) (s s' : QS) (K : WkV) : Prop where
  p : ∀ i, i < k → i ≠ t → s'.ph i = s.ph i
  r : ∀ i, i < k → i ≠ t → s'.pr i = s.pr i
  n : ∀ i, i < k → i ≠ t → s'.nx i = s.nx i ∨ (s.nx i = 0 ∧ s.ph i ≠ 0 ∧ K = beginI mode (nc k i))
  b : ∀ i, i < k → i ≠ t → s'.bl i = s.bl i ∨ (s'.bl i = 0 ∧ s.ph i ≠ 0 ∧ K = beginI mode (bc k i))
  t : ∀ i, i < k → i ≠ t → s.tail ≠ (i : Int) + 1 → s'.tail ≠ (i : Int) + 1
section
variable {tc : Int} {mode : Int} {k t i qp qp' : Nat} {s s' : QS} {K : WkV} {xs : List Int} {a st' : Int}
theorem TQ.move {st : Int} (h : TQ s i qp a st) (hp' : s'.ph i = s.ph i) (hr' : s'.pr i = s.pr i) (hn' : s'.nx i = s.nx i ∨ (s.nx i = 0 ∧ s.ph i ≠ 0)) (hb' : s'.bl i = s.bl i ∨ (s'.bl i = 0 ∧ s.ph i ≠ 0)) (ht' : s.tail ≠ (i : Int) + 1 → s'.tail ≠ (i : Int) + 1) : TQ s' i qp a st := by
  cases h with
  | out hp => exact .out (hp'.trans hp)
  | e0 hp => exact .e0 (hp'.trans hp)
  | e1 hp hn => exact .e1 (hp'.trans hp) (by omega)
  | e2 hp hn hb => exact .e2 (hp'.trans hp) (by omega) (by omega)
  | e3 hp ha => exact .e3 (hp'.trans hp) (ha.trans hr'.symm)
  | e4 hp h4 => exact .e4 (hp'.trans hp) fun e => by have := h4 e; omega
  | own hp => exact .own (hp'.trans hp)
  | g0 hp => exact .g0 (hp'.trans hp)
  | g1 hp => exact .g1 (hp'.trans hp)
  | g2 hp h1 h4 => exact .g2 (hp'.trans hp) (ht' h1) fun e => by have := h4 e; omega
  | g3 hp ha hn => exact .g3 (hp'.trans hp) (by omega) (by omega)
  | t0 hp => exact .t0 (hp'.trans hp)
  | t1 hp hn => exact .t1 (hp'.trans hp) (by omega)
theorem TQ.other {st : Int} (h : TQ s i qp a st) (ho : OthQ mode k t s s' K) (hi : i < k) (hne : i ≠ t) : TQ s' i qp a st :=
  h.move (ho.p i hi hne) (ho.r i hi hne) (by rcases ho.n i hi hne with e | e; exact .inl e; exact .inr ⟨e.1, e.2.1⟩) (by rcases ho.b i hi hne with e | e; exact .inl e; exact .inr ⟨e.1, e.2.1⟩) (ho.t i hi hne)
theorem OthQ.refl : OthQ mode k t s s K := ⟨fun _ _ _ => rfl, fun _ _ _ => rfl, fun _ _ _ => .inl rfl, fun _ _ _ => .inl rfl, fun _ _ _ => id⟩
theorem nc_q (hk : k ≤ 64) (hi : i < k) : nc (k : Int) (i : Int) = 8 + i := by unfold nc cellI; rw [if_pos (by omega)]; omega
theorem bc_q (hk : k ≤ 64) (hi : i < k) : bc (k : Int) (i : Int) = 8 + k + i := by unfold bc cellI; rw [if_pos (by omega)]; omega
theorem WordsT.th (h : WordsT tc k xs s) {d : Int} (h0 : 0 ≤ d) (h1 : d < 8 + 4 * k) : there xs d = true := by unfold there; rw [decide_eq_true_eq, h.len]; push_cast; omega
theorem WordsT.setN (h : WordsT tc k xs s) (hc : 0 ≤ tc ∧ tc < 8) (hk : k ≤ 64) (ht : t < k) (x : Int) (hx : s'.tail = s.tail ∧ s'.nx = upd s.nx t x ∧ s'.bl = s.bl) : WordsT tc k (st xs (nc k t) x) s' := by
  refine ⟨(st_len _ _ _).trans h.len, by rw [word_far _ (by rw [nc_q hk ht]; omega), hx.1]; exact h.t, fun i hi => ?_, fun i hi => by rw [word_far _ (by rw [bc_q hk hi, nc_q hk ht]; omega), hx.2.2]; exact h.b i hi⟩
  rw [hx.2.1]
  by_cases e : i = t
  · subst e; rw [upd_same, word_st, if_pos (h.th (by rw [nc_q hk hi]; omega) (by rw [nc_q hk hi]; omega))]
  · rw [upd_other _ _ e, word_far _ (by rw [nc_q hk hi, nc_q hk ht]; omega)]; exact h.n i hi
theorem WordsT.far {xs' : List Int} (h : WordsT tc k xs s) (hc : 0 ≤ tc ∧ tc < 8) (hk : k ≤ 64) (hl : xs'.length = xs.length) (h0 : wordAt xs' tc = wordAt xs tc) (hf : ∀ d : Int, 8 ≤ d → d < 8 + 2 * k → wordAt xs' d = wordAt xs d) : WordsT tc k xs' s :=
  ⟨hl.trans h.len, h0.trans h.t, fun i hi => (hf _ (by rw [nc_q hk hi]; omega) (by rw [nc_q hk hi]; omega)).trans (h.n i hi), fun i hi => (hf _ (by rw [bc_q hk hi]; omega) (by rw [bc_q hk hi]; omega)).trans (h.b i hi)⟩
theorem WordsT.own (h : WordsT tc k xs s) (hc : 0 ≤ tc ∧ tc < 8) (hk : k ≤ 64) {d : Int} (hd : d < 8) (hne : d ≠ tc) (x : Int) : WordsT tc k (st xs d x) s :=
  h.far hc hk (st_len _ _ _) (word_far _ hne) fun e h0 h1 => word_far _ (by omega)
theorem step_len0 (xs : List Int) (n mode i s c : Int) (q : Int → Bool) : (stepI xs n mode i s c q).xs.length = xs.length := by unfold stepI; (repeat' split) <;> first | rfl | exact st_len _ _ _
theorem WordsT.wait (h : WordsT tc k xs s) (hc : 0 ≤ tc ∧ tc < 8) (hk : k ≤ 64) (ht : t < k) (mode u c : Int) (q : Int → Bool) : WordsT tc k (stepI xs k mode t u c q).xs s :=
  h.far hc hk (step_len0 _ _ _ _ _ _ _) (own_wait (by rw [wc_at hk ht]; omega) (by rw [pc_at hk ht]; omega)) fun d h0 h1 => own_wait (by rw [wc_at hk ht]; omega) (by rw [pc_at hk ht]; omega)
theorem pc_big (k i : Int) (h : 0 ≤ k) : 8 + 2 * k ≤ pc k i ∨ pc k i < 0 := by unfold pc cellI; split <;> omega
theorem wake_len1 (xs : List Int) (k c i : Int) (on hit : Bool) : (wakeI xs k on c i hit).xs.length = xs.length := by
  unfold wakeI giveI lookI restI
  (repeat' split) <;> first | rfl | exact st_len _ _ _
theorem WordsT.wake (h : WordsT tc k xs s) (hc : 0 ≤ tc ∧ tc < 8) (hk : k ≤ 64) (on : Bool) (c i : Int) (hit : Bool) : WordsT tc k (wakeI xs k on c i hit).xs s :=
  h.far hc hk (wake_len1 _ _ _ _ _ _) (own_wake (by have := pc_big k i (by omega); omega)) fun d h0 h1 => own_wake (by have := pc_big k i (by omega); omega)
def FarT (tc : Int) (k : Nat) (pl : Bool) (xs xs' : List Int) : Prop := ∀ d : Int, 0 ≤ d → d ≠ tc → d < 8 ∨ (pl = true ∧ 8 + 2 * (k : Int) ≤ d) → wordAt xs' d = wordAt xs d
def QStep (tc mode : Int) (k t : Nat) (s : QS) (pl : Bool) (r R : LS) (qp' : Nat) : Prop := ∃ s', QOK k s' ∧ WordsT tc k R.xs s' ∧ TQ s' t qp' R.a R.s ∧ OthQ mode k t s s' R.k ∧ FarT tc k pl r.xs R.xs
end
end Go.Proofs.Ytaeninikaalkjaa
