import Derived.Deep.OwnRows
import Derived.Laws.BitsAllLaws
import Derived.Laws.BitsLemmas
import Derived.WalkKit
import Derived.Test.YtaeninikaalkjaaGreatH15
import Derived.Test.YtaeninikaalkjaaGreatH6
import Derived.Test.YtaeninikaalkjaaGreatH1
import Derived.Test.YtaeninikaalkjaaGreatH7
namespace Go.Proofs.YtaeninikaalkjaaGreat
open Go.RowKit
def wordI (k : Int) (c : Nat) (b : Int) : Int :=
  if k = 1 ∧ c ≤ 2 then b else if k = 2 ∧ c ≤ 1 then b * 256 % 4294967296 else if k = 2 ∧ c ≤ 4 then b else if k = 3 ∧ c ≤ 1 then b * 256 % 4294967296 else if k = 3 ∧ c = 3 then b
  else if k = 6 ∧ c = 0 then b % 256 * 256 + b % 256 * 65536 else 0
theorem low8 {x : Int} (hx : 0 ≤ x ∧ x < 4294967296) : bits .and .u32 x 255 = x % 256 := by
  have := bits_mask .u32 32 (by decide) (fun k h0 h1 => by rw [IntKind.wrap_u32']; omega) 8 (by omega) x hx.1 (by simpa using hx.2)
  simpa using this
theorem both8 {b : Int} (hb : 0 ≤ b ∧ b < 4294967296) :
    bits BinOp.or IntKind.u32 (bits BinOp.and IntKind.u32 b 255 * 256 % 4294967296) (bits BinOp.and IntKind.u32 b 255 * 65536 % 4294967296) = b % 256 * 256 + b % 256 * 65536 := by
  rw [low8 hb]
  obtain ⟨X, hX⟩ := Int.eq_ofNat_of_zero_le (show 0 ≤ b % 256 by omega)
  have hX' : X < 256 := by omega
  rw [hX, show (X : Int) * 256 % 4294967296 = ((X * 256 : Nat) : Int) by omega, show (X : Int) * 65536 % 4294967296 = ((X * 65536 : Nat) : Int) by omega,
    u32_or_nat _ _ (by omega) (by omega), Nat.or_comm, nat_join 16 _ _ (by omega) (by omega)]
  omega
theorem firstWord_one (k : Int) (c : Nat) (s : ByteArray) (b : Int) (w : World) (hk : 1 ≤ k ∧ k ≤ 6) (hs : (ownV k)[c]? = some (.string s)) (hb : 0 ≤ b ∧ b < 4294967296) :
    Calls Tryz.prog 48 #[.int .i64 k, .string s, .int .u32 b] w fun e w' => e = .returned (.int .u32 (wordI k c b)) ∧ w = w' := by
  obtain ⟨b1, b2⟩ := hb
  rcases kinds hk with rfl | rfl | rfl | rfl | rfl | rfl
  · clear hk
    have hc : c < 3 := (Array.getElem?_eq_some_iff.1 hs).1
    rcases (show c = 0 ∨ c = 1 ∨ c = 2 by omega) with rfl | rfl | rfl
    all_goals
      injection (Option.some.inj hs) with hs
      subst hs
      go_enter Tryz.func48, Tryz.ntmps48
      go_wp2
      go_ret
      first | exact ⟨rfl, rfl⟩ | (refine ⟨ret_int ?_, rfl⟩; simp [wordI]; done) | (refine ⟨ret_int ?_, rfl⟩; simp [wordI]; exact both8 ⟨b1, b2⟩)
  · clear hk
    have hc : c < 5 := (Array.getElem?_eq_some_iff.1 hs).1
    rcases (show c = 0 ∨ c = 1 ∨ c = 2 ∨ c = 3 ∨ c = 4 by omega) with rfl | rfl | rfl | rfl | rfl
    all_goals
      injection (Option.some.inj hs) with hs
      subst hs
      go_enter Tryz.func48, Tryz.ntmps48
      go_wp2
      go_ret
      first | exact ⟨rfl, rfl⟩ | (refine ⟨ret_int ?_, rfl⟩; simp [wordI]; done) | (refine ⟨ret_int ?_, rfl⟩; simp [wordI]; exact both8 ⟨b1, b2⟩)
  · clear hk
    have hc : c < 4 := (Array.getElem?_eq_some_iff.1 hs).1
    rcases (show c = 0 ∨ c = 1 ∨ c = 2 ∨ c = 3 by omega) with rfl | rfl | rfl | rfl
    all_goals
      injection (Option.some.inj hs) with hs
      subst hs
      go_enter Tryz.func48, Tryz.ntmps48
      go_wp2
      go_ret
      first | exact ⟨rfl, rfl⟩ | (refine ⟨ret_int ?_, rfl⟩; simp [wordI]; done) | (refine ⟨ret_int ?_, rfl⟩; simp [wordI]; exact both8 ⟨b1, b2⟩)
  · clear hk
    have hc : c < 2 := (Array.getElem?_eq_some_iff.1 hs).1
    rcases (show c = 0 ∨ c = 1 by omega) with rfl | rfl
    all_goals
      injection (Option.some.inj hs) with hs
      subst hs
      go_enter Tryz.func48, Tryz.ntmps48
      go_wp2
      go_ret
      first | exact ⟨rfl, rfl⟩ | (refine ⟨ret_int ?_, rfl⟩; simp [wordI]; done) | (refine ⟨ret_int ?_, rfl⟩; simp [wordI]; exact both8 ⟨b1, b2⟩)
  · clear hk
    have hc : c < 1 := (Array.getElem?_eq_some_iff.1 hs).1
    rcases (show c = 0 by omega) with rfl
    all_goals
      injection (Option.some.inj hs) with hs
      subst hs
      go_enter Tryz.func48, Tryz.ntmps48
      go_wp2
      go_ret
      first | exact ⟨rfl, rfl⟩ | (refine ⟨ret_int ?_, rfl⟩; simp [wordI]; done) | (refine ⟨ret_int ?_, rfl⟩; simp [wordI]; exact both8 ⟨b1, b2⟩)
  · clear hk
    have hc : c < 1 := (Array.getElem?_eq_some_iff.1 hs).1
    rcases (show c = 0 by omega) with rfl
    all_goals
      injection (Option.some.inj hs) with hs
      subst hs
      go_enter Tryz.func48, Tryz.ntmps48
      go_wp2
      go_ret
      first | exact ⟨rfl, rfl⟩ | (refine ⟨ret_int ?_, rfl⟩; simp [wordI]; done) | (refine ⟨ret_int ?_, rfl⟩; simp [wordI]; exact both8 ⟨b1, b2⟩)
-- FIRST
theorem infoF : (Tryz.prog.info? 23).map (fun i => (i.zero, i.size, i.bytes)) = some (some (.int .u32 0), 1, 4) := by kernel_rfl
def words (k : Int) (S c : Nat) (b : Int) : List Int := (List.range S).map fun j => if j < c then wordI k j b else 0
def cellsOf (l : List Int) : Array Value := (l.map (Value.int .u32)).toArray
theorem words_zero (k : Int) (S : Nat) (b : Int) : words k S 0 b = List.replicate S 0 := by
  apply List.ext_getElem
  · simp [words]
  · intro i h1 h2; simp [words]
theorem words_at (k : Int) (S c : Nat) (b : Int) (h : c < S) : (cellsOf (words k S c b))[c]? = some (.int .u32 0) := by
  simp [cellsOf, words, h]
theorem words_next (k : Int) (S c : Nat) (b : Int) : (cellsOf (words k S c b)).setIfInBounds c (.int .u32 (wordI k c b)) = cellsOf (words k S (c + 1) b) := by
  apply Array.ext_getElem?
  intro i
  rw [Array.getElem?_setIfInBounds]
  by_cases hi : c = i
  · subst hi
    by_cases hS : c < S
    · simp [cellsOf, words, hS]
    · simp [cellsOf, words, hS]
  · simp only [hi, if_false]
    simp only [cellsOf, words, List.getElem?_toArray, List.getElem?_map]
    rcases Nat.lt_or_ge i S with h | h
    · rw [List.getElem?_range h]
      simp only [Option.map_some]
      by_cases h2 : i < c
      · rw [if_pos h2, if_pos (by omega)]
      · rw [if_neg h2, if_neg (by omega)]
    · rw [List.getElem?_eq_none (by simpa using h)]
      rfl
theorem made_is (k : Int) (S : Nat) (b : Int) : madeCells #[.int .u32 0] S = cellsOf (words k S 0 b) := by
  apply Array.ext'
  rw [toList_madeCells_one, words_zero]
  simp [cellsOf]
def FirstAt (k b : Int) (S : Nat) (w : World) (e : Ending) (w' : World) : Prop :=
  ∃ g, e = .returned (.tuple #[.slice (some ⟨g, 0, none⟩) S S, .int .i64 0]) ∧ w.heap.size ≤ g ∧ Row w' g 23 (cellsOf (words k S (ownV k).size b)) ∧ Only Nil w w'
set_option maxHeartbeats 1000000 in
theorem first_yes (k n b : Int) (S : Nat) (w : World) (hk : 1 ≤ k ∧ k ≤ 6) (hn : 1 ≤ n ∧ n ≤ 64) (hS : sizeI n = S) (hb : 0 ≤ b ∧ b < 4294967296) :
    Calls Tryz.prog 15 #[.int .i64 k, .int .i64 n, .int .u32 b] w (FirstAt k b S w) := by
  have hz : sizeI n = 8 + 4 * n := if_pos hn
  have s1 : 12 ≤ S := by omega
  have s2 : S ≤ 300 := by omega
  have HS := Lib.hid hS
  have HB := Lib.hid hb
  have HK := Lib.hid hk
  have HN := Lib.hid hn
  clear hz hS hb hk hn
  have hmk := fun W => run_make_row' (P := Tryz.prog) 22 23 (.int .u32 0) 4 Tryz.underlying22 infoF rfl .i64 .i64 S (by omega) (by omega) W
  have qT : ∀ (w : World) (a : Option Addr) (n c n' c' : Nat), (binOp .eql 86 (.slice a n c) (.slice none n' c')).run Tryz.prog w = .ok (.bool a.isNone) w := fun w a n c n' c' => Lib.run_eql_slice_nil w _ _ a n c n' c' Tryz.underlying86
  go_enter Tryz.func15, Tryz.ntmps15
  go_wp2_with fail
  refine (ownNames_yes k _ HK.out).mono ?_
  intro e w1 hF
  obtain ⟨gn, rfl, hgn, hR, hO⟩ := hF
  have HL := Lib.hid (own_size k HK.out)
  have HA := Lib.hid (name_at k HK.out)
  have HWX := Lib.hid (firstWord_one k)
  generalize hLe : (ownV k).size = L at *
  have HLE := Lib.hid hLe
  have HR1 := Lib.hid hR
  have HO1 := Lib.hid hO
  have HG := Lib.hid hgn
  clear hLe hR hO hgn
  go_wp2_with fail
  refine (new_yes n _ HN.out).mono ?_
  rintro e w2 ⟨rfl, hO⟩
  have HO2 := Lib.hid ((HO1.out.trans hO).alloc (.cells #[.int .i64 n] 37))
  have HR2 := Lib.hid ((HR1.out.only hO id).alloc (.cells #[.int .i64 n] 37))
  clear hO
  go_wp2_with fail
  refine (size_any n _).mono ?_
  rw [HS.out]
  rintro e w3 ⟨rfl, hO⟩
  have HO3 := Lib.hid (HO2.out.trans hO)
  have HR3 := Lib.hid (HR2.out.only hO id)
  clear hO
  go_wp2
  have HM : Hid (Row (w3.alloc (.cells (madeCells #[.int .u32 0] S) 23)) w3.heap.size 23 (cellsOf (words k S 0 b))) := Lib.hid (by rw [← made_is]; exact Row.new _ _ _)
  have HO4 := Lib.hid (HO3.out.alloc (.cells (madeCells #[.int .u32 0] S) 23))
  have HR4 := Lib.hid (HR3.out.alloc (.cells (madeCells #[.int .u32 0] S) 23))
  have l1 := HL.out.1
  have l2 := HL.out.2
  have HZ := Lib.hid (show w.heap.size ≤ w3.heap.size ∧ gn < w3.heap.size from ⟨HO3.out.size, HR3.out.lt⟩)
  generalize w3.heap.size = gw at *
  clear hmk qT
  go_loopw [31] (fun i wr => ∃ c : Nat, c ≤ L ∧ i = .int .i64 c ∧ Row wr gw 23 (cellsOf (words k S c b)) ∧ Row wr gn 9 (ownV k) ∧ Only Nil w wr) (fun i _ => L - (intOf i).toNat)
  case atStart => exact ⟨0, Nat.zero_le _, rfl, HM.out, HR4.out, HO4.out⟩
  case round =>
    obtain ⟨c, hc, rfl, hrw, hrn, hor⟩ := hrel
    have HRW := Lib.hid hrw
    have HRN := Lib.hid hrn
    have HOR := Lib.hid hor
    clear hrw hrn hor
    by_cases hlt : c < L
    · obtain ⟨s, hs⟩ := HA.out c hlt
      have hcs : c < S := by omega
      have c0 := HRN.out.cell_ hs
      have c1 := HRW.out.cell_ (words_at k S c b hcs)
      have f1 := HRW.out.frozen c
      have HSS := Lib.hid hs
      clear hs
      go_wp2_with fail
      refine (HWX.out c s b _ HK.out HSS.out HB.out).mono ?_
      rintro e w' ⟨rfl, rfl⟩
      generalize hwd : wordI k c b = wd
      have HWD := Lib.hid hwd
      clear hwd
      go_wp2
      have hfin := HRW.out.set c (.int .u32 wd)
      rw [← HWD.out, words_next] at hfin
      refine ⟨⟨c + 1, by omega, by go_num, by rw [← HWD.out]; exact hfin, HRN.out.far (by have := HZ.out.2; simp; omega) _, HOR.out.setCell (p := ⟨gw, c, none⟩) (.inl HZ.out.1) _⟩, by simp [intOf]; omega⟩
    · have hkn : c = L := by omega
      have HC := Lib.hid hkn
      clear hkn
      go_wp2
      go_ret2
      refine ⟨gw, rfl, HZ.out.1, ?_, HOR.out⟩
      rw [HLE.out, ← HC.out]
      exact HRW.out
-- REF
end Go.Proofs.YtaeninikaalkjaaGreat
set_option linter.unusedVariables false
set_option linter.unusedSimpArgs false
namespace Go.Proofs.YtaeninikaalkjaaGreat
open Go.RowKit
theorem Row.ints {w : World} {g : Nat} {t : TypeId} {k : IntKind} {xs : List Int} (h : Row w g t ((xs.map (Value.int k)).toArray)) : Ints w w.heap.size k (some ⟨g, 0, none⟩) xs := fun _ => by
  refine ⟨g, 0, rfl, h.lt, fun i hi => ?_⟩
  rw [Nat.zero_add]
  refine h.cell_ ?_
  simp [List.getD, List.getElem?_eq_getElem hi]
end Go.Proofs.YtaeninikaalkjaaGreat
set_option linter.unusedVariables false
set_option linter.unusedSimpArgs false
namespace Go.Proofs.YtaeninikaalkjaaGreat
open Go.RowKit
def LS.next (L : LS → LS) (r : LS) : LS := if r.k.on then r.waking else L r.fresh
end Go.Proofs.YtaeninikaalkjaaGreat
set_option linter.unusedVariables false
set_option linter.unusedSimpArgs false
namespace Go.Proofs.YtaeninikaalkjaaGreat
open Go.RowKit
section
variable {os : List Int} {k : Nat}
end
def aloneG (chk : LS → Bool) (L : LS → LS) : Nat → LS → Int × List Int
  | 0, r => (0, r.xs)
  | m + 1, r => if chk r then (0, r.xs) else if (r.next L).over then ((r.next L).ret, (r.next L).xs) else aloneG chk L m (r.next L)
def chkN : LS → Bool := fun _ => false
def aloneL (L : LS → LS) (m : Nat) (r : LS) : Int × List Int := aloneG chkN L m r
structure Chk (chk : LS → Bool) : Prop where
  fresh : ∀ r : LS, chk r.fresh = chk r
  free : ∀ r : LS, r.s = 0 → chk r = false
section
variable {chk : LS → Bool} {L : LS → LS} {r : LS}
theorem next_fresh : r.fresh.next L = r.next L := by unfold LS.next; show (if r.k.on = true then _ else _) = _; split <;> rfl
theorem alone_fresh (hk0 : Chk chk) {m : Nat} (hm : 0 < m) : aloneG chk L m r.fresh = aloneG chk L m r := by
  cases m with
  | zero => omega
  | succ m => unfold aloneG; rw [next_fresh, hk0.fresh]; rfl
theorem alone_like (hk0 : Chk chk) {m : Nat} {r' : LS} (hm : 0 < m) (h : r.fresh = r'.fresh) : aloneG chk L m r = aloneG chk L m r' := by rw [← alone_fresh hk0 hm, h, alone_fresh hk0 hm]
theorem alone_on (hk0 : Chk chk) (h0 : r.s = 0) {m : Nat} (h : (r.next L).over = false) : aloneG chk L (m + 1) r = aloneG chk L m (r.next L) := by
  show (if _ then _ else if _ then _ else _) = _
  rw [if_neg (by rw [hk0.free r h0]; exact Bool.false_ne_true), if_neg (by rw [h]; exact Bool.false_ne_true)]
theorem alone_end (hk0 : Chk chk) (h0 : r.s = 0) {m : Nat} (h : (r.next L).over = true) : aloneG chk L (m + 1) r = ((r.next L).ret, (r.next L).xs) := by
  show (if _ then _ else if _ then _ else _) = _
  rw [if_neg (by rw [hk0.free r h0]; exact Bool.false_ne_true), if_pos h]
end
end Go.Proofs.YtaeninikaalkjaaGreat
set_option linter.unusedVariables false
set_option linter.unusedSimpArgs false
namespace Go.Proofs.YtaeninikaalkjaaGreat
open Go.RowKit
def NoWatch (k : Nat) (xs : List Int) : Prop := ∀ i : Nat, i < k → there xs (wc k i) = true ∧ wordAt xs (wc k i) = 0
section
variable {chk : LS → Bool} {L : LS → LS} {r : LS}
theorem alone_sweepQ (hk0 : Chk chk) {xs : List Int} {k : Nat} (hk : 1 ≤ k ∧ k ≤ 64) {c : Int} (hc : 0 ≤ c ∧ c < 8) (hW : NoWatch k xs) (m : Nat) : ∀ (j : Nat) (r : LS), j < k → r.n = k → r.xs = xs → r.k = ⟨true, c, ((k - 1 - j : Nat) : Int), false⟩ → r.s = 0 →
    0 < m ∨ r.ret ≠ 0 → aloneG chk L (j + 1 + m) r = if r.ret ≠ 0 then (r.ret, r.xs) else aloneG chk L m { r with k := wk0 } := by
  intro j
  induction j with
  | zero =>
    intro r hj hn hx hr hs0 hm
    have hw : r.next L = { r with acc := ofV r.wakeR.acc, ns := [], k := wk0 } := by
      unfold LS.next
      rw [show r.k.on = true by rw [hr], if_pos rfl]
      unfold LS.waking LS.wakeR
      rw [hr, hn, hx]
      have hcl := hW (k - 1 - 0) (by omega)
      simp only [wakeI, lookI, if_true, hcl.1, hcl.2, Bool.false_eq_true, if_false]
      rw [if_neg (by omega)]
      simp only [nextI]
      rw [if_pos (by omega)]
    by_cases hret : r.ret = 0
    · rw [if_neg (by simpa using hret)]
      have hm0 : 0 < m := by rcases hm with h | h; exact h; exact absurd hret h
      rw [show 0 + 1 + m = m + 1 by omega, alone_on hk0 hs0 (by rw [hw]; simp [LS.over, hret]), hw]
      exact alone_like hk0 hm0 rfl
    · rw [if_pos hret, show 0 + 1 + m = m + 1 by omega, alone_end hk0 hs0 (by rw [hw]; simp [LS.over, hret, wk0]), hw]
  | succ j ih =>
    intro r hj hn hx hr hs0 hm
    have hw : r.next L = { r with acc := ofV r.wakeR.acc, ns := [], k := ⟨true, c, ((k - 1 - j : Nat) : Int), false⟩ } := by
      unfold LS.next
      rw [show r.k.on = true by rw [hr], if_pos rfl]
      unfold LS.waking LS.wakeR
      rw [hr, hn, hx]
      have hcl := hW (k - 1 - (j + 1)) (by omega)
      simp only [wakeI, lookI, if_true, hcl.1, hcl.2, Bool.false_eq_true, if_false]
      rw [if_neg (by omega)]
      simp only [nextI]
      rw [if_neg (by omega), show ((k - 1 - (j + 1) : Nat) : Int) + 1 = ((k - 1 - j : Nat) : Int) by omega]
    rw [show j + 1 + 1 + m = (j + 1 + m) + 1 by omega, alone_on hk0 hs0 (by rw [hw]; simp [LS.over]), hw]
    refine (ih { r with acc := ofV r.wakeR.acc, ns := [], k := ⟨true, c, ((k - 1 - j : Nat) : Int), false⟩ } (by omega) hn hx rfl hs0 hm).trans ?_
    by_cases hret : r.ret = 0
    · rw [if_neg (by simpa using hret), if_neg (by simpa using hret)]
      exact alone_like hk0 (hm.resolve_right (by simpa using hret)) rfl
    · rw [if_pos hret, if_pos hret]
theorem alone_doneQ (hk0 : Chk chk) {k : Nat} (hk : 1 ≤ k ∧ k ≤ 64) {c : Int} (hc : 0 ≤ c ∧ c < 8) {m : Nat} {r r' : LS} {mode : Int} (he : r.next L = r') (hn : r'.n = k) (hW : NoWatch k r'.xs) (hr : r'.k = beginI mode c) (hret : r'.ret ≠ 0) (hs0 : r.s = 0) (hs1 : r'.s = 0) (hm : k < m) :
    aloneG chk L m r = (r'.ret, r'.xs) := by
  obtain ⟨m, rfl⟩ : ∃ q, m = q + 1 := ⟨m - 1, by omega⟩
  by_cases h2 : mode = 2
  · subst h2
    rw [alone_on hk0 hs0 (by rw [he]; simp [LS.over, hr, beginI_2]), he]
    have e := alone_sweepQ (L := L) hk0 hk hc hW (m - k) (k - 1) r' (by omega) hn rfl (by rw [hr, beginI_2]; simp) hs1 (.inr hret)
    rw [show k - 1 + 1 + (m - k) = m by omega, if_pos hret] at e
    exact e
  · rw [beginI_no h2] at hr
    rw [alone_end hk0 hs0 (by rw [he]; simp [LS.over, hr, wk0, hret]), he]
end
end Go.Proofs.YtaeninikaalkjaaGreat
namespace Go.Proofs.YtaeninikaalkjaaGreat
end Go.Proofs.YtaeninikaalkjaaGreat
set_option linter.unusedVariables false
set_option linter.unusedSimpArgs false
namespace Go.Proofs.YtaeninikaalkjaaGreat
open Go.RowKit
end Go.Proofs.YtaeninikaalkjaaGreat
set_option linter.unusedVariables false
set_option linter.unusedSimpArgs false
namespace Go.Proofs.YtaeninikaalkjaaGreat
open Go.RowKit
def newR (k mode task op : Int) (xs : List Int) : LS := ⟨k, mode, task, op, 0, 0, 0, 0, wk0, 0, acc0, [], xs⟩
def newCells (p : Option Addr) (k mode task op : Int) : Array Value := #[.pointer p, .int .i64 k, .int .i64 mode, .int .i64 task, .int .i64 op, .int .i64 0, .int .u32 0, .int .u32 0, .int .i64 0, .bool false, .int .i64 0, .int .i64 0, .bool false, .int .i64 0, .int .i64 0, .int .i64 0, .int .u32 0, .int .u32 0, .int .u32 0, .slice none 0 0]
end Go.Proofs.YtaeninikaalkjaaGreat
set_option linter.unusedVariables false
set_option linter.unusedSimpArgs false
namespace Go.Proofs.YtaeninikaalkjaaGreat
open Go.RowKit
def upd {α : Type} (f : Nat → α) (t : Nat) (v : α) : Nat → α := fun i => if i = t then v else f i
theorem upd_same {α : Type} (f : Nat → α) (t : Nat) (v : α) : upd f t v t = v := if_pos rfl
theorem upd_other {α : Type} (f : Nat → α) {t i : Nat} (v : α) (h : i ≠ t) : upd f t v i = f i := if_neg h
structure MV where
  rs : Nat → LS
  hold : Nat → Int
  xs : List Int
def MV.at (m : MV) (t : Nat) : LS := { m.rs t with xs := m.xs }
def MV.setR (m : MV) (t : Nat) (r : LS) : MV := ⟨upd m.rs t r, m.hold, r.xs⟩
def MV.setH (m : MV) (t : Nat) (h : Int) : MV := ⟨m.rs, upd m.hold t h, m.xs⟩
def zeroF (r : LS) (op : Int) : LS := { r with op := op, line := 0, a := 0, b := 0, s := 0, k := wk0, ret := 0 }
def fromI (op hold : Int) : Int := if op = 2 ∨ op = 4 then 0 else if op = 8 then 1 else hold
def behindI (op ret hold : Int) : Int := if ret ≠ 2 then hold else if op = 1 ∨ op = 5 then 1 else if op = 3 ∨ op = 6 ∨ op = 7 then 2 else hold
def MV.start (m : MV) (t : Nat) (op : Int) : MV := (m.setH t (fromI op (m.hold t))).setR t (zeroF (m.at t) op)
def MV.go (L : LS → LS) (m : MV) (t : Nat) : MV :=
  if (m.at t).stuck then m
  else if ((m.at t).next L).over then ((m.setR t ((m.at t).next L)).setH t (behindI ((m.at t).next L).op ((m.at t).next L).ret (m.hold t))).setR t (zeroF ((m.at t).next L) 0)
  else m.setR t ((m.at t).next L)
section
variable {m : MV} {t i : Nat} {r : LS} {h : Int}
end
end Go.Proofs.YtaeninikaalkjaaGreat
