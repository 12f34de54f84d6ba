/- First, OwnRow, From, MkRun, WdNew, Tab, PkArg, WdBusy, RcMp. -/
import Derived.Deep.OwnRows
import Derived.Laws.BitsAllLaws
import Derived.Laws.BitsLemmas
import Derived.StillTailTactics
import Derived.Deep.Cut
import Derived.Deep.Slices
import Derived.Deep.Fields
import Derived.ChangeSame
import Derived.Test.YtigdbokfapedcaaGreatChecked
import Derived.Maps.Own
import Derived.Maps.OwnSet
import Derived.Maps.Ext
import Derived.Test.YtigdbokfapedcaaGreatB15
import Derived.Test.YtigdbokfapedcaaGreatB2
import Derived.Test.YtigdbokfapedcaaGreatB3
import Derived.Test.YtigdbokfapedcaaGreatB6
import Derived.Test.YtigdbokfapedcaaGreatB1
/- The words at first: the program's and the reference's. -/
namespace Go.Proofs.YtigdbokfapedcaaGreat
open Go.RowKit

/-- The word at first of a kind's own cell. -/
def firstI (k : Int) (c : Nat) (b : Int) : Int :=
  if k = 1 ∧ c ≤ 2 then b else if k = 2 ∧ c ≤ 1 then b * 256 % 4294967296 else if k = 2 ∧ c ≤ 4 then b else if k = 3 ∧ c ≤ 1 then b * 256 % 4294967296 else if k = 3 ∧ c = 3 then b
  else if k = 6 ∧ c = 0 then b % 256 * 256 + b % 256 * 65536 else 0

theorem low8 {x : Int} (hx : 0 ≤ x ∧ x < 4294967296) : bits .and .u32 x 255 = x % 256 := by
  have := bits_mask .u32 32 (by decide) (fun k h0 h1 => by rw [IntKind.wrap_u32']; omega) 8 (by omega) x hx.1 (by simpa using hx.2)
  simpa using this
theorem both8 {b : Int} (hb : 0 ≤ b ∧ b < 4294967296) :
    bits BinOp.or IntKind.u32 (bits BinOp.and IntKind.u32 b 255 * 256 % 4294967296) (bits BinOp.and IntKind.u32 b 255 * 65536 % 4294967296) = b % 256 * 256 + b % 256 * 65536 := by
  rw [low8 hb]
  obtain ⟨X, hX⟩ := Int.eq_ofNat_of_zero_le (show 0 ≤ b % 256 by omega)
  have hX' : X < 256 := by omega
  rw [hX, show (X : Int) * 256 % 4294967296 = ((X * 256 : Nat) : Int) by omega, show (X : Int) * 65536 % 4294967296 = ((X * 65536 : Nat) : Int) by omega,
    u32_or_nat _ _ (by omega) (by omega), Nat.or_comm, nat_join 16 _ _ (by omega) (by omega)]
  omega

theorem firstWord_one (k : Int) (c : Nat) (s : ByteArray) (b : Int) (w : World) (hk : 1 ≤ k ∧ k ≤ 6) (hs : (ownV k)[c]? = some (.string s)) (hb : 0 ≤ b ∧ b < 4294967296) :
    Calls Tryz.prog 33 #[.int .i64 k, .string s, .int .u32 b] w fun e w' => e = .returned (.int .u32 (firstI k c b)) ∧ w = w' := by
  obtain ⟨b1, b2⟩ := hb
  rcases kinds hk with rfl | rfl | rfl | rfl | rfl | rfl
  · clear hk
    have hc : c < 3 := (Array.getElem?_eq_some_iff.1 hs).1
    rcases (show c = 0 ∨ c = 1 ∨ c = 2 by omega) with rfl | rfl | rfl
    all_goals
      injection (Option.some.inj hs) with hs
      subst hs
      go_enter Tryz.func33, Tryz.ntmps33
      go_wp2
      go_ret
      first | exact ⟨rfl, rfl⟩ | (refine ⟨ret_int ?_, rfl⟩; simp [firstI]; done) | (refine ⟨ret_int ?_, rfl⟩; simp [firstI]; exact both8 ⟨b1, b2⟩)
  · clear hk
    have hc : c < 5 := (Array.getElem?_eq_some_iff.1 hs).1
    rcases (show c = 0 ∨ c = 1 ∨ c = 2 ∨ c = 3 ∨ c = 4 by omega) with rfl | rfl | rfl | rfl | rfl
    all_goals
      injection (Option.some.inj hs) with hs
      subst hs
      go_enter Tryz.func33, Tryz.ntmps33
      go_wp2
      go_ret
      first | exact ⟨rfl, rfl⟩ | (refine ⟨ret_int ?_, rfl⟩; simp [firstI]; done) | (refine ⟨ret_int ?_, rfl⟩; simp [firstI]; exact both8 ⟨b1, b2⟩)
  · clear hk
    have hc : c < 4 := (Array.getElem?_eq_some_iff.1 hs).1
    rcases (show c = 0 ∨ c = 1 ∨ c = 2 ∨ c = 3 by omega) with rfl | rfl | rfl | rfl
    all_goals
      injection (Option.some.inj hs) with hs
      subst hs
      go_enter Tryz.func33, Tryz.ntmps33
      go_wp2
      go_ret
      first | exact ⟨rfl, rfl⟩ | (refine ⟨ret_int ?_, rfl⟩; simp [firstI]; done) | (refine ⟨ret_int ?_, rfl⟩; simp [firstI]; exact both8 ⟨b1, b2⟩)
  · clear hk
    have hc : c < 2 := (Array.getElem?_eq_some_iff.1 hs).1
    rcases (show c = 0 ∨ c = 1 by omega) with rfl | rfl
    all_goals
      injection (Option.some.inj hs) with hs
      subst hs
      go_enter Tryz.func33, Tryz.ntmps33
      go_wp2
      go_ret
      first | exact ⟨rfl, rfl⟩ | (refine ⟨ret_int ?_, rfl⟩; simp [firstI]; done) | (refine ⟨ret_int ?_, rfl⟩; simp [firstI]; exact both8 ⟨b1, b2⟩)
  · clear hk
    have hc : c < 1 := (Array.getElem?_eq_some_iff.1 hs).1
    rcases (show c = 0 by omega) with rfl
    all_goals
      injection (Option.some.inj hs) with hs
      subst hs
      go_enter Tryz.func33, Tryz.ntmps33
      go_wp2
      go_ret
      first | exact ⟨rfl, rfl⟩ | (refine ⟨ret_int ?_, rfl⟩; simp [firstI]; done) | (refine ⟨ret_int ?_, rfl⟩; simp [firstI]; exact both8 ⟨b1, b2⟩)
  · clear hk
    have hc : c < 1 := (Array.getElem?_eq_some_iff.1 hs).1
    rcases (show c = 0 by omega) with rfl
    all_goals
      injection (Option.some.inj hs) with hs
      subst hs
      go_enter Tryz.func33, Tryz.ntmps33
      go_wp2
      go_ret
      first | exact ⟨rfl, rfl⟩ | (refine ⟨ret_int ?_, rfl⟩; simp [firstI]; done) | (refine ⟨ret_int ?_, rfl⟩; simp [firstI]; exact both8 ⟨b1, b2⟩)
-- FIRST
theorem infoF : (Tryz.prog.info? 22).map (fun i => (i.zero, i.size, i.bytes)) = some (some (.int .u32 0), 1, 4) := by kernel_rfl

/-- The words when the first c of the own cells are laid. -/
def words (k : Int) (S c : Nat) (b : Int) : List Int := (List.range S).map fun j => if j < c then firstI k j b else 0
def cellsOf (l : List Int) : Array Value := (l.map (Value.int .u32)).toArray
theorem words_len (k : Int) (S c : Nat) (b : Int) : (words k S c b).length = S := by simp [words]
theorem words_zero (k : Int) (S : Nat) (b : Int) : words k S 0 b = List.replicate S 0 := by
  apply List.ext_getElem
  · simp [words]
  · intro i h1 h2; simp [words]
theorem words_at (k : Int) (S c : Nat) (b : Int) (h : c < S) : (cellsOf (words k S c b))[c]? = some (.int .u32 0) := by
  simp [cellsOf, words, h]
theorem words_next (k : Int) (S c : Nat) (b : Int) : (cellsOf (words k S c b)).setIfInBounds c (.int .u32 (firstI k c b)) = cellsOf (words k S (c + 1) b) := by
  apply Array.ext_getElem?
  intro i
  rw [Array.getElem?_setIfInBounds]
  by_cases hi : c = i
  · subst hi
    by_cases hS : c < S
    · simp [cellsOf, words, hS]
    · simp [cellsOf, words, hS]
  · simp only [hi, if_false]
    simp only [cellsOf, words, List.getElem?_toArray, List.getElem?_map]
    rcases Nat.lt_or_ge i S with h | h
    · rw [List.getElem?_range h]
      simp only [Option.map_some]
      by_cases h2 : i < c
      · rw [if_pos h2, if_pos (by omega)]
      · rw [if_neg h2, if_neg (by omega)]
    · rw [List.getElem?_eq_none (by simpa using h)]
      rfl
theorem made_is (k : Int) (S : Nat) (b : Int) : madeCells #[.int .u32 0] S = cellsOf (words k S 0 b) := by
  apply Array.ext'
  rw [toList_madeCells_one, words_zero]
  simp [cellsOf]

/-- The words at first, in a block of their own, and the number z. -/
def FirstAt (k b : Int) (S : Nat) (w : World) (e : Ending) (w' : World) : Prop :=
  ∃ g, e = .returned (.tuple #[.slice (some ⟨g, 0, none⟩) S S, .int .i64 0]) ∧ w.heap.size ≤ g ∧ Row w' g 22 (cellsOf (words k S (ownV k).size b)) ∧ Only Nil w w'

set_option maxHeartbeats 1000000 in
theorem first_yes (k n b : Int) (S : Nat) (w : World) (hk : 1 ≤ k ∧ k ≤ 6) (hn : 1 ≤ n ∧ n ≤ 64) (hS : sizeI n = S) (hb : 0 ≤ b ∧ b < 4294967296) :
    Calls Tryz.prog 13 #[.int .i64 k, .int .i64 n, .int .u32 b] w (FirstAt k b S w) := by
  have hz : sizeI n = 8 + 4 * n := if_pos hn
  have s1 : 12 ≤ S := by omega
  have s2 : S ≤ 300 := by omega
  have HS := Lib.hid hS
  have HB := Lib.hid hb
  have HK := Lib.hid hk
  have HN := Lib.hid hn
  clear hz hS hb hk hn
  have hmk := fun W => run_make_row' (P := Tryz.prog) 45 22 (.int .u32 0) 4 Tryz.underlying45 infoF rfl .i64 .i64 S (by omega) (by omega) W
  have qT : ∀ (w : World) (a : Option Addr) (n c n' c' : Nat), (binOp .eql 87 (.slice a n c) (.slice none n' c')).run Tryz.prog w = .ok (.bool a.isNone) w := fun w a n c n' c' => Lib.run_eql_slice_nil w _ _ a n c n' c' Tryz.underlying87
  go_enter Tryz.func13, Tryz.ntmps13
  go_wp2_with fail
  refine (ownNames_yes k _ HK.out).mono ?_
  intro e w1 hF
  obtain ⟨gn, rfl, hgn, hR, hO⟩ := hF
  have HL := Lib.hid (own_size k HK.out)
  have HA := Lib.hid (name_at k HK.out)
  have HWX := Lib.hid (firstWord_one k)
  generalize hLe : (ownV k).size = L at *
  have HLE := Lib.hid hLe
  have HR1 := Lib.hid hR
  have HO1 := Lib.hid hO
  have HG := Lib.hid hgn
  clear hLe hR hO hgn
  go_wp2_with fail
  refine (new_yes n _ HN.out).mono ?_
  rintro e w2 ⟨rfl, hO⟩
  have HO2 := Lib.hid ((HO1.out.trans hO).alloc (.cells #[.int .i64 n] 49))
  have HR2 := Lib.hid ((HR1.out.only hO id).alloc (.cells #[.int .i64 n] 49))
  clear hO
  go_wp2_with fail
  refine (size_any n _).mono ?_
  rw [HS.out]
  rintro e w3 ⟨rfl, hO⟩
  have HO3 := Lib.hid (HO2.out.trans hO)
  have HR3 := Lib.hid (HR2.out.only hO id)
  clear hO
  go_wp2
  have HM : Hid (Row (w3.alloc (.cells (madeCells #[.int .u32 0] S) 22)) w3.heap.size 22 (cellsOf (words k S 0 b))) := Lib.hid (by rw [← made_is]; exact Row.new _ _ _)
  have HO4 := Lib.hid (HO3.out.alloc (.cells (madeCells #[.int .u32 0] S) 22))
  have HR4 := Lib.hid (HR3.out.alloc (.cells (madeCells #[.int .u32 0] S) 22))
  have l1 := HL.out.1
  have l2 := HL.out.2
  have HZ := Lib.hid (show w.heap.size ≤ w3.heap.size ∧ gn < w3.heap.size from ⟨HO3.out.size, HR3.out.lt⟩)
  generalize w3.heap.size = gw at *
  clear hmk qT
  go_loopw [31] (fun i wr => ∃ c : Nat, c ≤ L ∧ i = .int .i64 c ∧ Row wr gw 22 (cellsOf (words k S c b)) ∧ Row wr gn 9 (ownV k) ∧ Only Nil w wr) (fun i _ => L - (intOf i).toNat)
  case atStart => exact ⟨0, Nat.zero_le _, rfl, HM.out, HR4.out, HO4.out⟩
  case round =>
    obtain ⟨c, hc, rfl, hrw, hrn, hor⟩ := hrel
    have HRW := Lib.hid hrw
    have HRN := Lib.hid hrn
    have HOR := Lib.hid hor
    clear hrw hrn hor
    by_cases hlt : c < L
    · obtain ⟨s, hs⟩ := HA.out c hlt
      have hcs : c < S := by omega
      have c0 := HRN.out.cell_ hs
      have c1 := HRW.out.cell_ (words_at k S c b hcs)
      have f1 := HRW.out.frozen c
      have HSS := Lib.hid hs
      clear hs
      go_wp2_with fail
      refine (HWX.out c s b _ HK.out HSS.out HB.out).mono ?_
      rintro e w' ⟨rfl, rfl⟩
      generalize hwd : firstI k c b = wd
      have HWD := Lib.hid hwd
      clear hwd
      go_wp2
      have hfin := HRW.out.set c (.int .u32 wd)
      rw [← HWD.out, words_next] at hfin
      refine ⟨⟨c + 1, by omega, by go_num, by rw [← HWD.out]; exact hfin, HRN.out.far (by have := HZ.out.2; simp; omega) _, HOR.out.setCell (p := ⟨gw, c, none⟩) (.inl HZ.out.1) _⟩, by simp [intOf]; omega⟩
    · have hkn : c = L := by omega
      have HC := Lib.hid hkn
      clear hkn
      go_wp2
      go_ret2
      refine ⟨gw, rfl, HZ.out.1, ?_, HOR.out⟩
      rw [HLE.out, ← HC.out]
      exact HRW.out
-- REF
theorem first_no_kind (k n b : Int) (w : World) (hw : (Lit.int .i64 k).wf = true) (hk : ¬ (1 ≤ k ∧ k ≤ 6)) :
    Calls Tryz.prog 13 #[.int .i64 k, .int .i64 n, .int .u32 b] w fun e w' => e = .returned (.tuple #[.slice none 0 0, .int .i64 3]) ∧ Only Nil w w' := by
  have qT : ∀ (w : World) (a : Option Addr) (n c n' c' : Nat), (binOp .eql 87 (.slice a n c) (.slice none n' c')).run Tryz.prog w = .ok (.bool a.isNone) w := fun w a n c n' c' => Lib.run_eql_slice_nil w _ _ a n c n' c' Tryz.underlying87
  have HK := Lib.hid hk
  have HW := Lib.hid hw
  clear hk hw
  go_enter Tryz.func13, Tryz.ntmps13
  go_wp2_with fail
  refine (ownNames_no k _ HW.out HK.out).mono ?_
  rintro e w1 ⟨rfl, hO⟩
  have HO1 := Lib.hid hO
  clear hO
  go_wp2
  go_ret2
  exact ⟨rfl, HO1.out⟩

theorem first_no_n (k n b : Int) (w : World) (hk : 1 ≤ k ∧ k ≤ 6) (hn : ¬ (1 ≤ n ∧ n ≤ 64)) :
    Calls Tryz.prog 13 #[.int .i64 k, .int .i64 n, .int .u32 b] w fun e w' => e = .returned (.tuple #[.slice none 0 0, .int .i64 2]) ∧ Only Nil w w' := by
  have qT : ∀ (w : World) (a : Option Addr) (n c n' c' : Nat), (binOp .eql 87 (.slice a n c) (.slice none n' c')).run Tryz.prog w = .ok (.bool a.isNone) w := fun w a n c n' c' => Lib.run_eql_slice_nil w _ _ a n c n' c' Tryz.underlying87
  have HK := Lib.hid hk
  have HN := Lib.hid hn
  clear hk hn
  go_enter Tryz.func13, Tryz.ntmps13
  go_wp2_with fail
  refine (ownNames_yes k _ HK.out).mono ?_
  intro e w1 hF
  obtain ⟨gn, rfl, hgn, hR, hO⟩ := hF
  generalize (ownV k).size = L at *
  have HO1 := Lib.hid hO
  clear hR hO hgn
  go_wp2_with fail
  refine (new_no n _ HN.out).mono ?_
  rintro e w2 ⟨rfl, hO⟩
  have HO2 := Lib.hid ((HO1.out.trans hO).alloc (.cells #[.int .i64 0] 49))
  clear hO
  go_wp2
  go_ret2
  exact ⟨rfl, HO2.out⟩

end Go.Proofs.YtigdbokfapedcaaGreat
/- A list of words in a block that is known whole. -/
set_option linter.unusedVariables false
set_option linter.unusedSimpArgs false
namespace Go.Proofs.YtigdbokfapedcaaGreat
open Go.RowKit
theorem Own.row_ {w : World} {g base : Nat} {xs : List Int} (hR : Row w g 22 (cellsOf xs)) (hm : xs.length ≤ 1024) (hb : base ≤ g) : Own w base (some ⟨g, 0, none⟩) xs.length xs :=
  ⟨⟨by simp, .inr ⟨g, xs.length, cellsOf xs, rfl, hb, hR, Nat.le_refl _, by simp [maxLen]; omega, by simp [cellsOf], by
    rw [List.take_of_length_le (by simp [cellsOf])]
    simp [cellsOf]⟩⟩, (by intro h; cases h), fun i ⟨a, ha, hi⟩ => by cases ha; exact hi ▸ hb⟩
end Go.Proofs.YtigdbokfapedcaaGreat
/- cells.From. -/
set_option linter.unusedVariables false
set_option linter.unusedSimpArgs false
namespace Go.Proofs.YtigdbokfapedcaaGreat
open Go.RowKit

/-- A new memory is handed back. -/
def Fresh (w : World) (xs : List Int) (e : Ending) (w' : World) : Prop := ∃ b A' c', e = .returned (.tuple #[.pointer (some ⟨b, 0, none⟩), .int .i64 0]) ∧ w.heap.size ≤ b ∧ (∀ i, At A' i → w.heap.size ≤ i) ∧ Mem w' b A' c' xs ∧ Only Nil w w'

theorem from_ok (A : Option Addr) (n cap : Nat) (xs : List Int) (w : World) (hm : n ≤ 1024) (h : Held w A n cap xs) :
    Calls Tryz.prog 15 #[.slice A n cap] w (Fresh w xs) := by
  have hl := h.1
  have hm' : (n : Int) ≤ 1024 := by omega
  have HH := Lib.hid h
  have HL := Lib.hid hl
  clear h hl
  go_enter Tryz.func15, Tryz.ntmps15
  go_wp2_with (go_at_call 35; refine (clone_held A n cap xs _ (by omega) HH.out).mono ?_; rintro e w1 ⟨A', c', rfl, ho, hO⟩)
  have HO := Lib.hid ho
  have HW := Lib.hid hO
  clear ho hO
  go_ret2
  refine ⟨w1.heap.size, A', c', rfl, HW.out.size, HO.out.base, ⟨Row.new w1 _ _, ?_, ?_⟩, HW.out.alloc _⟩
  · exact ⟨own_base (own_only HO.out.own ((Only.refl Nil w1).alloc _) (fun _ _ h => h)) (Nat.zero_le _), HO.out.nil, fun _ _ => Nat.zero_le _⟩
  · rw [HL.out]; exact hm

theorem from_not (A : Option Addr) (n cap : Nat) (w : World) (hm : 1024 < n) :
    Calls Tryz.prog 15 #[.slice A n cap] w fun e w' => e = .returned (.tuple #[.pointer none, .int .i64 2]) ∧ w' = w := by
  have hm' : 1024 < (n : Int) := by omega
  go_enter Tryz.func15, Tryz.ntmps15
  go_wp2
  go_ret2
  exact ⟨rfl, rfl⟩
end Go.Proofs.YtigdbokfapedcaaGreat
/- A run at its beginning. -/
set_option linter.unusedVariables false
set_option linter.unusedSimpArgs false
namespace Go.Proofs.YtigdbokfapedcaaGreat
open Go.RowKit

/-- A run of the task that begins an operation. -/
def newR (k mode task op : Int) (xs : List Int) : LS := ⟨k, mode, task, op, 0, 0, 0, 0, wk0, 0, acc0, [], xs⟩
def newCells (p : Option Addr) (k mode task op : Int) : Array Value := #[.pointer p, .int .i64 k, .int .i64 mode, .int .i64 task, .int .i64 op, .int .i64 0, .int .u32 0, .int .u32 0, .int .i64 0, .bool false, .int .i64 0, .int .i64 0, .bool false, .int .i64 0, .int .i64 0, .int .i64 0, .int .u32 0, .int .u32 0, .int .u32 0, .slice none 0 0]
end Go.Proofs.YtigdbokfapedcaaGreat
/- A world, new, the program's. -/
set_option linter.unusedVariables false
set_option linter.unusedSimpArgs false
namespace Go.Proofs.YtigdbokfapedcaaGreat
open Go.RowKit
def xs0 (kind : Int) (k : Nat) (b : Int) : List Int := words kind (8 + 4 * k) (ownV kind).size b
/-- The world at first. -/
def mv0 (kind mode : Int) (k : Nat) (b : Int) : MV := ⟨fun t => newR k mode t 0 (xs0 kind k b), fun _ => 0, xs0 kind k b⟩
theorem firstI_wrd (k : Int) (c : Nat) {b : Int} (hb : Wrd b) : Wrd (firstI k c b) := by
  unfold Wrd at *
  unfold firstI
  repeat' split
  all_goals first | exact hb | omega
theorem mv0_ok {kind mode : Int} {k : Nat} {b : Int} (hb : Wrd b) : WdI mode k (mv0 kind mode k b) := by
  refine ⟨words_len _ _ _ _, fun n hn => ?_, fun t ht => ⟨rfl, rfl, rfl, wd_0, wd_0, ⟨show (0 : Int) ≤ 0 by decide, show (0 : Int) ≤ 2 by decide⟩, show (0 : Int) ≤ 0 by decide, show (0 : Int) ≤ 8 by decide⟩, fun t ht => .inl rfl, fun t ht _ => rfl⟩
  have hn' : n ∈ words kind (8 + 4 * k) (ownV kind).size b := hn
  unfold words at hn'
  obtain ⟨j, _, rfl⟩ := List.mem_map.1 hn'
  split
  · have := firstI_wrd kind j hb
    exact wf_mk this.1 this.2
  · exact wf_mk (by decide) (by decide)
/-- A new world comes back. -/
def WNew (W : World) (kind mode : Int) (k : Nat) (m : MV) (e : Ending) (w' : World) : Prop :=
  ∃ g gt b A cp, e = .returned (.tuple #[.pointer (some ⟨g, 0, none⟩), .int .i64 0]) ∧ WdP w' g gt b A cp kind mode k m ∧ Only Nil W w' ∧ W.heap.size ≤ g ∧ W.heap.size ≤ gt ∧ W.heap.size ≤ b ∧ ∀ j, At A j → W.heap.size ≤ j
/-- None comes back, and the number of an error. -/
def WNone (W : World) (er : Int) (e : Ending) (w' : World) : Prop := e = .returned (.tuple #[.pointer none, .int .i64 er]) ∧ Only Nil W w'
theorem lines_fn {kind : Int} (hk : 1 ≤ kind ∧ kind ≤ 6) : ∃ F, linesF kind = .func (.func F) #[] #[] := by
  have hc : kind = 1 ∨ kind = 2 ∨ kind = 3 ∨ kind = 4 ∨ kind = 5 ∨ kind = 6 := by omega
  rcases hc with rfl | rfl | rfl | rfl | rfl | rfl <;> exact ⟨_, rfl⟩
theorem lines_nil {kind : Int} (hk : ¬ (1 ≤ kind ∧ kind ≤ 6)) : linesF kind = .nilFunc := by
  unfold linesF
  rw [if_neg (by omega), if_neg (by omega), if_neg (by omega), if_neg (by omega), if_neg (by omega), if_neg (by omega)]
set_option maxHeartbeats 2000000 in
theorem wnew_kind (kind mode n b : Int) (W : World) (hk : ¬ (1 ≤ kind ∧ kind ≤ 6)) :
    Calls Tryz.prog 4 #[.int .i64 kind, .int .i64 mode, .int .i64 n, .int .u32 b] W (WNone W 3) := by
  have HL := Lib.hid (lines_any kind)
  rw [decide_eq_false hk, lines_nil hk] at HL
  clear hk
  go_enter Tryz.func4, Tryz.ntmps4
  go_wp2_with fail
  refine (HL.out _).mono ?_
  rintro e w1 ⟨rfl, rfl⟩
  clear HL
  go_wp2
  go_ret2
  exact ⟨rfl, Only.refl _ _⟩
set_option maxHeartbeats 2000000 in
theorem wnew_mode (kind mode n b : Int) (W : World) (hk : 1 ≤ kind ∧ kind ≤ 6) (hm : ¬ (mode = 1 ∨ mode = 2)) :
    Calls Tryz.prog 4 #[.int .i64 kind, .int .i64 mode, .int .i64 n, .int .u32 b] W (WNone W 1) := by
  have HL := Lib.hid (lines_any kind)
  obtain ⟨F, hF⟩ := lines_fn hk
  rw [decide_eq_true hk, hF] at HL
  have h1 : (mode != 1) = true := bne_iff_ne.2 fun h => hm (.inl h)
  have h2 : (mode != 2) = true := bne_iff_ne.2 fun h => hm (.inr h)
  clear hk hm hF
  go_enter Tryz.func4, Tryz.ntmps4
  go_wp2_with fail
  refine (HL.out _).mono ?_
  rintro e w1 ⟨rfl, rfl⟩
  clear HL
  go_wp2
  go_ret2
  exact ⟨rfl, Only.refl _ _⟩
set_option maxHeartbeats 2000000 in
theorem wnew_n (kind mode n b : Int) (W : World) (hk : 1 ≤ kind ∧ kind ≤ 6) (hm : mode = 1 ∨ mode = 2) (hn : ¬ (1 ≤ n ∧ n ≤ 64)) :
    Calls Tryz.prog 4 #[.int .i64 kind, .int .i64 mode, .int .i64 n, .int .u32 b] W (WNone W 2) := by
  have HL := Lib.hid (lines_any kind)
  obtain ⟨F, hF⟩ := lines_fn hk
  rw [decide_eq_true hk, hF] at HL
  have HK := Lib.hid hk
  have HN := Lib.hid hn
  clear hk hn hF
  rcases hm with rfl | rfl
  all_goals
    go_enter Tryz.func4, Tryz.ntmps4
    go_wp2_with fail
    refine (HL.out _).mono ?_
    rintro e w1 ⟨rfl, rfl⟩
    clear HL
    go_wp2_with fail
    refine (first_no_n kind n b _ HK.out HN.out).mono ?_
    rintro e w2 ⟨rfl, hO⟩
    have HO := Lib.hid hO
    clear hO
    go_wp2
    go_ret2
    exact ⟨rfl, HO.out⟩
set_option maxRecDepth 100000 in
set_option maxHeartbeats 2000000 in
theorem wnew_yes (kind mode b : Int) (k : Nat) (W : World) (hk : 1 ≤ kind ∧ kind ≤ 6) (hm : mode = 1 ∨ mode = 2) (hn : 1 ≤ k ∧ k ≤ 64) (hb : 0 ≤ b ∧ b < 4294967296) :
    Calls Tryz.prog 4 #[.int .i64 kind, .int .i64 mode, .int .i64 k, .int .u32 b] W (WNew W kind mode k (mv0 kind mode k b)) := by
  have HL := Lib.hid (lines_any kind)
  obtain ⟨F, hF⟩ := lines_fn hk
  rw [decide_eq_true hk, hF] at HL
  have HF := Lib.hid hF
  have hs : sizeI k = 8 + 4 * k := if_pos (by omega)
  have HFI := Lib.hid (show ∀ w, Calls _ _ _ w _ from fun w => first_yes kind k b (8 + 4 * k) w hk (by omega) (by rw [hs]; omega) hb)
  have HPN := Lib.hid (show ∀ w, Calls _ _ _ w _ from fun w => new_yes (k : Int) w (by omega))
  have HKK := Lib.hid (show 8 + 4 * k ≤ 264 by omega)
  have hmk := fun W => make_tasks k hn.2 W
  have q0 : ¬ (k : Int) < 0 := by omega
  clear hs hk hn hb hF
  rcases hm with rfl | rfl
  · skip
    go_enter Tryz.func4, Tryz.ntmps4
    go_wp2_with fail
    refine (HL.out _).mono ?_
    rintro e w1 ⟨rfl, rfl⟩
    clear HL
    go_wp2_with fail
    refine (HFI.out _).mono ?_
    rintro e w2 ⟨gl, rfl, hg, hR, hO⟩
    have HL2 := Lib.hid (And.intro hg (And.intro hR hO))
    clear hg hR hO HFI
    go_wp2_with fail
    refine (HPN.out _).mono ?_
    rintro e w3 ⟨rfl, hO⟩
    have HO3 := Lib.hid hO
    clear hO HPN
    have e3 := (Only.refl Nil w3).alloc (.cells #[.int .i64 k] 49)
    go_wp2_with fail
    have hlen : (xs0 kind k b).length = 8 + 4 * k := words_len _ _ _ _
    have hown : Own (w3.alloc (.cells #[.int .i64 k] 49)) 0 (some ⟨gl, 0, none⟩) (xs0 kind k b).length (xs0 kind k b) := Own.row_ (xs := xs0 kind k b) ((HL2.out.2.1.only HO3.out id).only e3 id) (by have := HKK.out; omega) (Nat.zero_le _)
    have hheld := hown.held
    rw [hlen] at hheld
    refine (from_ok _ _ _ (xs0 kind k b) _ (by have := HKK.out; omega) hheld).mono ?_
    rintro e w4 ⟨bm, A', cp', rfl, hb, hA, hM, hO⟩
    have HM := Lib.hid hM
    have HO4 := Lib.hid ((HL2.out.2.2.trans HO3.out).trans (e3.trans hO))
    have HS4 := Lib.hid (show W.heap.size ≤ (w3.alloc (.cells #[.int .i64 k] 49)).heap.size from ((HL2.out.2.2.trans HO3.out).trans e3).size)
    have HB := Lib.hid (And.intro (Nat.le_trans HS4.out hb) (fun j hj => Nat.le_trans HS4.out (hA j hj)))
    have HMP := Lib.hid ((Row.new w3 49 #[.int .i64 k]).only hO id)
    clear hlen hown hheld e3 hb hA hM hO HS4 HL2 HO3
    generalize w3.heap.size = M at *
    have m0 : w4.cell? ⟨M, 0, none⟩ = some (.int .i64 k) := HMP.out.cell_ (i := 0) rfl
    go_upto_region 11 with (fail)
    refine wp_region_phase (n := 11) 8 (fun w => w.cell? ⟨M, 0, none⟩ = some (.int .i64 k)) rfl (by kernel_rfl) m0 (fun hHeld => ?_)
    have HM5 := Lib.hid (HM.out.only (Only.refl Nil w4).drew id (fun _ _ => id))
    have HO5 := Lib.hid HO4.out.drew
    have HMP5 := Lib.hid HMP.out.drew
    have HZ5 := Lib.hid (show W.heap.size ≤ w4.drew.heap.size from HO4.out.size)
    clear HM HO4 HMP m0
    generalize w4.drew = w5 at *
    refine za 0 rfl ?_
    refine za 1 rfl ?_
    refine za 2 rfl ?_
    refine za 3 rfl ?_
    refine zt 4 rfl ?_
    refine za 5 rfl ?_
    refine mpc 6 rfl (by kernel_rfl) (by rfl) (fun K hK => ?_)
    go_simp
    have e6 := (Only.refl Nil w5).alloc (.cells (madeCells zeroT (k * 11)) 86)
    have hH6 : (w5.alloc (.cells (madeCells zeroT (k * 11)) 86)).cell? ⟨M, 0, none⟩ = some (.int .i64 k) := (HMP5.out.only e6 id).cell_ (i := 0) rfl
    have HT6 := Lib.hid (show Tasks (w5.alloc (.cells (madeCells zeroT (k * 11)) 86)) w5.heap.size k (fun _ => 0) (fun t => newR k 1 t 0 (xs0 kind k b)) from tasks_zero (fun i hi => rfl) (Row.new w5 86 _))
    have HM6 := Lib.hid (HM5.out.only e6 id (fun _ _ => id))
    have HO6 := Lib.hid (HO5.out.trans e6)
    have HZ6 := Lib.hid (Nat.le_trans HZ5.out (Nat.le_succ _))
    refine hK.out _ _ (.inr hH6) ?_
    clear hK K hHeld HM5 HO5 HMP5 e6 hmk
    have HZZ := Lib.hid (show ∀ V : World, V = w5 → V.heap.size ≤ w5.heap.size from fun _ h => h ▸ Nat.le_refl _)
    generalize w5.alloc _ = w6 at *
    generalize w5.heap.size = GT at *

    refine za 7 rfl ?_
    refine mpc 8 rfl (by kernel_rfl) (by rfl) (fun K hK => ?_)
    go_simp
    have e8 := (Only.refl Nil w6).alloc (.cells #[.int .i64 kind, .int .i64 1, .func (.func F) #[] #[], .pointer (some ⟨bm, 0, none⟩), .int .i64 k, .slice (some ⟨GT, 0, none⟩) k k] 57)
    have HWW := Lib.hid (show WdP (w6.alloc (.cells #[.int .i64 kind, .int .i64 1, .func (.func F) #[] #[], .pointer (some ⟨bm, 0, none⟩), .int .i64 k, .slice (some ⟨GT, 0, none⟩) k k] 57)) w6.heap.size GT bm A' cp' kind 1 k (mv0 kind 1 k b) from ⟨by unfold wdCs; rw [HF.out]; exact Row.new w6 _ _, HM6.out.only e8 id (fun _ _ => id), HT6.out.only e8 id⟩)
    have HO8 := Lib.hid (HO6.out.trans e8)
    refine hK.out _ _ (.inl (by kernel_rfl)) ?_
    clear hK K hH6 HM6 HT6 e8
    generalize w6.alloc _ = w8 at *
    have HL8 := Lib.hid HO6.out.size
    generalize w6.heap.size = G8 at *

    refine za 9 rfl ?_
    refine za 10 rfl ?_
    refine wpAnyP_done (by kernel_rfl) ?_ _
    go_wp2
    go_ret2
    exact ⟨G8, GT, bm, A', cp', rfl, HWW.out, HO8.out, HL8.out, HZ5.out, HB.out.1, HB.out.2⟩
  · skip
    go_enter Tryz.func4, Tryz.ntmps4
    go_wp2_with fail
    refine (HL.out _).mono ?_
    rintro e w1 ⟨rfl, rfl⟩
    clear HL
    go_wp2_with fail
    refine (HFI.out _).mono ?_
    rintro e w2 ⟨gl, rfl, hg, hR, hO⟩
    have HL2 := Lib.hid (And.intro hg (And.intro hR hO))
    clear hg hR hO HFI
    go_wp2_with fail
    refine (HPN.out _).mono ?_
    rintro e w3 ⟨rfl, hO⟩
    have HO3 := Lib.hid hO
    clear hO HPN
    have e3 := (Only.refl Nil w3).alloc (.cells #[.int .i64 k] 49)
    go_wp2_with fail
    have hlen : (xs0 kind k b).length = 8 + 4 * k := words_len _ _ _ _
    have hown : Own (w3.alloc (.cells #[.int .i64 k] 49)) 0 (some ⟨gl, 0, none⟩) (xs0 kind k b).length (xs0 kind k b) := Own.row_ (xs := xs0 kind k b) ((HL2.out.2.1.only HO3.out id).only e3 id) (by have := HKK.out; omega) (Nat.zero_le _)
    have hheld := hown.held
    rw [hlen] at hheld
    refine (from_ok _ _ _ (xs0 kind k b) _ (by have := HKK.out; omega) hheld).mono ?_
    rintro e w4 ⟨bm, A', cp', rfl, hb, hA, hM, hO⟩
    have HM := Lib.hid hM
    have HO4 := Lib.hid ((HL2.out.2.2.trans HO3.out).trans (e3.trans hO))
    have HS4 := Lib.hid (show W.heap.size ≤ (w3.alloc (.cells #[.int .i64 k] 49)).heap.size from ((HL2.out.2.2.trans HO3.out).trans e3).size)
    have HB := Lib.hid (And.intro (Nat.le_trans HS4.out hb) (fun j hj => Nat.le_trans HS4.out (hA j hj)))
    have HMP := Lib.hid ((Row.new w3 49 #[.int .i64 k]).only hO id)
    clear hlen hown hheld e3 hb hA hM hO HS4 HL2 HO3
    generalize w3.heap.size = M at *
    have m0 : w4.cell? ⟨M, 0, none⟩ = some (.int .i64 k) := HMP.out.cell_ (i := 0) rfl
    go_upto_region 11 with (fail)
    refine wp_region_phase (n := 11) 8 (fun w => w.cell? ⟨M, 0, none⟩ = some (.int .i64 k)) rfl (by kernel_rfl) m0 (fun hHeld => ?_)
    have HM5 := Lib.hid (HM.out.only (Only.refl Nil w4).drew id (fun _ _ => id))
    have HO5 := Lib.hid HO4.out.drew
    have HMP5 := Lib.hid HMP.out.drew
    have HZ5 := Lib.hid (show W.heap.size ≤ w4.drew.heap.size from HO4.out.size)
    clear HM HO4 HMP m0
    generalize w4.drew = w5 at *
    refine za 0 rfl ?_
    refine za 1 rfl ?_
    refine za 2 rfl ?_
    refine za 3 rfl ?_
    refine zt 4 rfl ?_
    refine za 5 rfl ?_
    refine mpc 6 rfl (by kernel_rfl) (by rfl) (fun K hK => ?_)
    go_simp
    have e6 := (Only.refl Nil w5).alloc (.cells (madeCells zeroT (k * 11)) 86)
    have hH6 : (w5.alloc (.cells (madeCells zeroT (k * 11)) 86)).cell? ⟨M, 0, none⟩ = some (.int .i64 k) := (HMP5.out.only e6 id).cell_ (i := 0) rfl
    have HT6 := Lib.hid (show Tasks (w5.alloc (.cells (madeCells zeroT (k * 11)) 86)) w5.heap.size k (fun _ => 0) (fun t => newR k 2 t 0 (xs0 kind k b)) from tasks_zero (fun i hi => rfl) (Row.new w5 86 _))
    have HM6 := Lib.hid (HM5.out.only e6 id (fun _ _ => id))
    have HO6 := Lib.hid (HO5.out.trans e6)
    have HZ6 := Lib.hid (Nat.le_trans HZ5.out (Nat.le_succ _))
    refine hK.out _ _ (.inr hH6) ?_
    clear hK K hHeld HM5 HO5 HMP5 e6 hmk
    have HZZ := Lib.hid (show ∀ V : World, V = w5 → V.heap.size ≤ w5.heap.size from fun _ h => h ▸ Nat.le_refl _)
    generalize w5.alloc _ = w6 at *
    generalize w5.heap.size = GT at *

    refine za 7 rfl ?_
    refine mpc 8 rfl (by kernel_rfl) (by rfl) (fun K hK => ?_)
    go_simp
    have e8 := (Only.refl Nil w6).alloc (.cells #[.int .i64 kind, .int .i64 2, .func (.func F) #[] #[], .pointer (some ⟨bm, 0, none⟩), .int .i64 k, .slice (some ⟨GT, 0, none⟩) k k] 57)
    have HWW := Lib.hid (show WdP (w6.alloc (.cells #[.int .i64 kind, .int .i64 2, .func (.func F) #[] #[], .pointer (some ⟨bm, 0, none⟩), .int .i64 k, .slice (some ⟨GT, 0, none⟩) k k] 57)) w6.heap.size GT bm A' cp' kind 2 k (mv0 kind 2 k b) from ⟨by unfold wdCs; rw [HF.out]; exact Row.new w6 _ _, HM6.out.only e8 id (fun _ _ => id), HT6.out.only e8 id⟩)
    have HO8 := Lib.hid (HO6.out.trans e8)
    refine hK.out _ _ (.inl (by kernel_rfl)) ?_
    clear hK K hH6 HM6 HT6 e8
    generalize w6.alloc _ = w8 at *
    have HL8 := Lib.hid HO6.out.size
    generalize w6.heap.size = G8 at *

    refine za 9 rfl ?_
    refine za 10 rfl ?_
    refine wpAnyP_done (by kernel_rfl) ?_ _
    go_wp2
    go_ret2
    exact ⟨G8, GT, bm, A', cp', rfl, HWW.out, HO8.out, HL8.out, HZ5.out, HB.out.1, HB.out.2⟩
end Go.Proofs.YtigdbokfapedcaaGreat
/- A slice of structs that came in: its cells, field by field. -/
namespace Go.Proofs.YtigdbokfapedcaaGreat
open Go.RowKit Go.ChangeShapes Go.WideShapes Go.Deep

section
variable {H : Type} {enc : TypeId × Value → H} {P : Program} {w : World} {base : Nat} {spare : Nat → Bool} {held : Bool}
/-- Element i, field j: the cell, and its own reading. -/
theorem open_tab {t e : TypeId} {fs : Array Field} {fuel len cap : Nat} {A : Option Addr} {x : DataW H × List MemPlace} (ht : P.underlying t = some (.slice e)) (he : P.underlying e = some (.struct fs))
    (hone : oneCellFields P fs = true) (hC : P.cellsOf e = fs.size) (h0 : 0 < fs.size) (h : DataW.trod enc P w base spare held fuel t [.slice A len cap] = some x) :
    ∀ i, i < len → ∃ b o, A = some ⟨b, o, none⟩ ∧ b < w.heap.size ∧ ∀ j f, fs[j]? = some f → ∃ v n y, w.cell? ⟨b, o + (i * fs.size + j), none⟩ = some v ∧ DataW.trod enc P w base spare held n f.type [v] = some y := by
  intro i hi
  rcases open_slice ht h with ⟨hcs, _⟩ | ⟨a, len', cap', m, n, D, Pl, hcs, _, hl, _, hmm, _, hrow⟩
  · simp only [List.cons.injEq, Value.slice.injEq] at hcs
    omega
  · simp only [List.cons.injEq, Value.slice.injEq, and_true] at hcs
    obtain ⟨rfl, rfl, rfl⟩ := hcs
    have him : i < m := by rw [hmm]; split <;> omega
    obtain ⟨cs, hc, hy⟩ := hrow i him
    rw [hC] at hc
    obtain ⟨_, hlen, hat⟩ := World.cells?_some hc
    obtain ⟨ys, k, _, _, _, hyl, hf⟩ := DataW.trod_struct he hy
    have hcell : ∀ j, j < fs.size → ∃ v, cs[j]? = some v ∧ w.cell? (a.add (i * fs.size + j)) = some v := by
      intro j hj
      have hv : cs[j]? = some (cs[j]'(by omega)) := List.getElem?_eq_getElem (by omega)
      exact ⟨_, hv, by rw [← Go.Deep.add_add, hat j hj, hv]⟩
    obtain ⟨b, o, spot⟩ := a
    have hspot : spot = none := by
      obtain ⟨cs0, hc0, _⟩ := hrow 0 (by omega)
      rw [hC] at hc0
      obtain ⟨_, hlen0, hat0⟩ := World.cells?_some hc0
      have e := hat0 0 h0
      have hv : cs0[0]? = some (cs0[0]'(by omega)) := List.getElem?_eq_getElem (by omega)
      rw [hv] at e
      simpa [Addr.add] using World.cell?_spot e
    subst hspot
    refine ⟨b, o, rfl, ?_, fun j f hj => ?_⟩
    · obtain ⟨v, _, hv⟩ := hcell 0 h0
      have := World.block_lt_of_cell? w _ hv
      rwa [add_block] at this
    · have hjl : j < fs.size := (Array.getElem?_eq_some_iff.1 hj).1
      obtain ⟨ho, hk⟩ := hone_of hone j f hj
      obtain ⟨v, hv, hcv⟩ := hcell j hjl
      have h1 := hf j f hj
      rw [ho, hk, List.drop_eq_getElem_cons (by omega)] at h1
      have hys : ys[j]? = some (ys[j]'(by omega)) := List.getElem?_eq_getElem (by omega)
      rw [List.getElem?_eq_getElem (by omega)] at hv
      injection hv with hv
      rw [hv] at h1
      refine ⟨v, k, _, by rw [← add_at]; exact hcv, h1.trans hys⟩
end
end Go.Proofs.YtigdbokfapedcaaGreat
/- Picks that came in. -/
set_option linter.unusedVariables false
set_option linter.unusedSimpArgs false
namespace Go.Proofs.YtigdbokfapedcaaGreat
open Go.RowKit

/-- The picks that came in: element by element. -/
def IsPicks (w : World) (A : Option Addr) (len : Nat) : Prop := ∀ i, i < len → ∃ b q t o, A = some ⟨b, q, none⟩ ∧ b < w.heap.size ∧
  w.cell? ⟨b, q + i * 2, none⟩ = some (.int .i64 t) ∧ w.cell? ⟨b, q + i * 2 + 1, none⟩ = some (.int .i64 o)

theorem isPicks_of {H : Type} {enc : TypeId × Value → H} {w : World} {base : Nat} {spare : Nat → Bool} {held : Bool} {fuel len cap : Nat} {A : Option Addr} {x : DataW H × List MemPlace}
    (h : DataW.trod enc Tryz.prog w base spare held fuel 23 [.slice A len cap] = some x) : IsPicks w A len := by
  intro i hi
  obtain ⟨b, o, hA, hb, hf⟩ := open_tab Tryz.underlying23 Tryz.underlying61 (by kernel_rfl) (by kernel_rfl) (by decide) h i hi
  obtain ⟨v0, n0, y0, c0, t0⟩ := hf 0 _ rfl
  obtain ⟨v1, n1, y1, c1, t1⟩ := hf 1 _ rfl
  obtain ⟨z0, e0, _, wz0⟩ := DataW.trod_int Tryz.underlying3 t0
  obtain ⟨z1, e1, _, wz⟩ := DataW.trod_int Tryz.underlying3 t1
  simp only [List.cons.injEq, and_true] at e0 e1
  subst e0 e1
  exact ⟨b, o, z0, z1, hA, hb, c0, c1⟩
end Go.Proofs.YtigdbokfapedcaaGreat
/- What a task is with, the program's. -/
set_option linter.unusedVariables false
set_option linter.unusedSimpArgs false
namespace Go.Proofs.YtigdbokfapedcaaGreat
open Go.RowKit

theorem woBusy_any (g gt b : Nat) (A : Option Addr) (cp : Nat) (kind mode : Int) (k : Nat) (m : MV) (t : Int) (w : World) (h : WdP w g gt b A cp kind mode k m) :
    Calls Tryz.prog 11 #[.pointer (some ⟨g, 0, none⟩), .int .i64 t] w fun e w' => e = .returned (.int .i64 (if 0 ≤ t ∧ t < k then (m.rs t.toNat).op else 0)) ∧ w = w' := by
  by_cases ht : 0 ≤ t ∧ t < k
  · rw [if_pos ht]
    obtain ⟨i, rfl⟩ : ∃ i : Nat, t = i := ⟨t.toNat, by omega⟩
    rw [show (i : Int).toNat = i from rfl]
    have hi : i < k := by omega
    have a5 : w.cell? ⟨g, 5, none⟩ = some (.slice (some ⟨gt, 0, none⟩) k k) := h.row.cell_ (i := 5) rfl
    have d0 : w.cell? ⟨gt, i * 11 + 1, none⟩ = some (.int .i64 ((m.rs i).op)) := h.tasks.cell hi 1 rfl
    have HH := Lib.hid (woHas_any g gt b A cp kind mode k m i w h)
    rw [decide_eq_true ht] at HH
    have q2 : (i : Int) < k := by omega
    have q3 : (0 : Int) ≤ i := by omega
    have q4 : (i : Int).toNat = i := rfl
    clear h ht
    go_enter Tryz.func11, Tryz.ntmps11
    go_wp2_with fail
    refine HH.out.mono ?_
    rintro e w1 ⟨rfl, rfl⟩
    go_wp2
    go_ret
    exact ⟨rfl, rfl⟩
  · rw [if_neg ht]
    have HH := Lib.hid (woHas_any g gt b A cp kind mode k m t w h)
    rw [decide_eq_false ht] at HH
    clear h ht
    go_enter Tryz.func11, Tryz.ntmps11
    go_wp2_with fail
    refine HH.out.mono ?_
    rintro e w1 ⟨rfl, rfl⟩
    go_wp2
    go_ret
    exact ⟨rfl, rfl⟩
theorem woBusy_nil (t : Int) (w : World) : Calls Tryz.prog 11 #[.pointer none, .int .i64 t] w fun e w' => e = .returned (.int .i64 0) ∧ w = w' := by
  have HH := Lib.hid (woHas_nil t w)
  go_enter Tryz.func11, Tryz.ntmps11
  go_wp2_with fail
  refine HH.out.mono ?_
  rintro e w1 ⟨rfl, rfl⟩
  go_wp2
  go_ret
  exact ⟨rfl, rfl⟩
end Go.Proofs.YtigdbokfapedcaaGreat
/- A map by numbers that the call made: what it holds at each key. -/
set_option linter.unusedVariables false
set_option linter.unusedSimpArgs false
namespace Go.Proofs.YtigdbokfapedcaaGreat
open Go.RowKit
/-- An element of the map is read as itself. -/
def asIt (v : Value) : Option (DataW Value × List MemPlace) := some (.held v, [])
abbrev ky (t : Int) : Lit := .int .i64 t
def at_ (o : Option Value) (z : DataW Value) : DataW Value := match o with | some v => .held v | none => z
def updM {α : Type} (f : Int → α) (t : Int) (v : α) : Int → α := fun u => if u = t then v else f u
theorem updM_same {α : Type} (f : Int → α) (t : Int) (v : α) : updM f t v t = v := if_pos rfl
theorem updM_other {α : Type} (f : Int → α) {t u : Int} (v : α) (h : u ≠ t) : updM f t v u = f u := if_neg h
/-- Block M is a map of at most n entries; f: what it holds. -/
def Mp (w : World) (M n : Nat) (f : Int → Option Value) : Prop := ∃ D : DataW Value, w.ownsMap Tryz.prog 3 asIt M n D ∧ ∀ t, Maps.has D (ky t) = (f t).isSome ∧ ∀ z, D.atKey (ky t) z = at_ (f t) z
theorem kyOf (n : Int) (h : (Lit.int .i64 n).wf = true) : keyOf Tryz.prog 3 (.int .i64 n) = some (ky n) := Maps.keyOf_int_mk Tryz.underlying3 h
theorem ky_ne {t u : Int} (h : u ≠ t) : ky u ≠ ky t := fun e => h (by injection e)
theorem mp_made (w : World) : Mp (w.alloc (.map #[] 0)) w.heap.size 0 (fun _ => none) := ⟨.map [], World.ownsMap_made w _ _ _, fun t => ⟨rfl, fun z => rfl⟩⟩
section
variable {w w' : World} {M n : Nat} {f : Int → Option Value} {S : Nat → Prop}
theorem Mp.lt (h : Mp w M n f) : M < w.heap.size := by obtain ⟨D, hD, _⟩ := h; exact hD.lt
theorem Mp.mono (h : Mp w M n f) {n' : Nat} (hn : n ≤ n') : Mp w M n' f := by
  obtain ⟨D, hD, h2⟩ := h
  exact ⟨D, hD.mono hn, h2⟩
theorem Mp.only (h : Mp w M n f) (ho : Only S w w') (hS : ¬ S M) : Mp w' M n f := by
  obtain ⟨D, hD, h2⟩ := h
  have hl := hD.lt
  obtain ⟨es, clock, hb, r⟩ := hD
  exact ⟨D, ⟨es, clock, (ho.block M hl hS).trans hb, r⟩, h2⟩
theorem Mp.isMap (h : Mp w M n f) : ∃ es clock, w.heap[M]? = some (.map es clock) := by
  obtain ⟨D, ⟨es, clock, hb, _⟩, _⟩ := h
  exact ⟨es, clock, hb⟩
/-- A block of cells is no map. -/
theorem Mp.ne (h : Mp w M n f) {g : Nat} {t : TypeId} {cs : Array Value} (hr : Row w g t cs) : M ≠ g := fun e => by
  subst e
  obtain ⟨es, clock, hb⟩ := h.isMap
  have hr' : w.heap[M]? = _ := hr
  rw [hb] at hr'
  cases hr'
set_option maxRecDepth 100000 in
theorem Mp.get (h : Mp w M n f) {T E : TypeId} (ht : Tryz.prog.underlying T = some (.map 3 E)) {z : Value} (hz : (zeroValue E).run Tryz.prog w = .ok z w) {t : Int} (hw : (Lit.int .i64 t).wf = true) :
    (Instr.lookup T (.map (some M)) (.int .i64 t) false).run Tryz.prog w = .ok ((f t).getD z) w := by
  obtain ⟨D, hD, h2⟩ := h
  obtain ⟨v, ps, hrun, hv⟩ := hD.lookup (Maps.int_keyed Tryz.underlying3) ht hz (zd := .held z) (zp := []) rfl (kyOf t hw)
  rw [(h2 t).2] at hv
  have hv' : DataW.held v = at_ (f t) (.held z) := by
    simp only [asIt, Option.some.injEq, Prod.mk.injEq] at hv
    exact hv.1
  rw [hrun]
  cases hf : f t with
  | none => rw [hf] at hv'; injection hv' with e; rw [e]; rfl
  | some u => rw [hf] at hv'; injection hv' with e; rw [e]; rfl
set_option maxRecDepth 100000 in
theorem Mp.get_ok (h : Mp w M n f) {T E : TypeId} (ht : Tryz.prog.underlying T = some (.map 3 E)) {z : Value} (hz : (zeroValue E).run Tryz.prog w = .ok z w) {t : Int} (hw : (Lit.int .i64 t).wf = true) :
    (Instr.lookup T (.map (some M)) (.int .i64 t) true).run Tryz.prog w = .ok (.tuple #[(f t).getD z, .bool (f t).isSome]) w := by
  obtain ⟨D, hD, h2⟩ := h
  obtain ⟨v, ps, hrun, hv⟩ := hD.look_ok (Maps.int_keyed Tryz.underlying3) ht hz (zd := .held z) (zp := []) rfl (kyOf t hw)
  rw [(h2 t).2] at hv
  have hv' : DataW.held v = at_ (f t) (.held z) := by
    simp only [asIt, Option.some.injEq, Prod.mk.injEq] at hv
    exact hv.1
  rw [hrun, (h2 t).1]
  cases hf : f t with
  | none => rw [hf] at hv'; injection hv' with e; rw [e]; rfl
  | some u => rw [hf] at hv'; injection hv' with e; rw [e]; rfl
theorem turned_only (h : w.mapTurned w' M) : Only (· = M) w w' := by
  have hg := h.grown
  exact ⟨hg.os, hg.tape, hg.output, hg.size, fun k hk hS => hg.block k hk (fun e => hS (by injection e))⟩
set_option maxRecDepth 100000 in
theorem Mp.put (h : Mp w M n f) {T E : TypeId} (ht : Tryz.prog.underlying T = some (.map 3 E)) (hn : n < 1000000) {t : Int} (hw : (Lit.int .i64 t).wf = true) (v : Value) :
    ∃ w', (Instr.mapUpdate T (.map (some M)) (.int .i64 t) v).run Tryz.prog w = .ok () w' ∧ Mp w' M (n + 1) (updM f t (some v)) ∧ Only (· = M) w w' := by
  obtain ⟨D, hD, h2⟩ := h
  have hm := hD.isMap
  obtain ⟨w', hrun, ho, hg⟩ := hD.store (Maps.int_keyed Tryz.underlying3) ht (by unfold maxLen; omega) (kyOf t hw) (val := v) (d := .held v) (ps := []) rfl
  refine ⟨w', hrun, ⟨_, ho, fun u => ?_⟩, turned_only hg⟩
  by_cases e : u = t
  · subst e
    rw [updM_same]
    exact ⟨Maps.has_put_same hm (show WideAt.IsKeyLit (ky u) from trivial) _, fun z => Maps.atKey_put_same hm (show WideAt.IsKeyLit (ky u) from trivial) _ z⟩
  · rw [updM_other f _ e]
    exact ⟨(Maps.has_put_other (ky_ne e) _).trans (h2 u).1, fun z => (Maps.atKey_put_other (ky_ne e) _ z).trans ((h2 u).2 z)⟩
set_option maxRecDepth 100000 in
theorem Mp.del (h : Mp w M n f) {T E : TypeId} (ht : Tryz.prog.underlying T = some (.map 3 E)) {t : Int} (hw : (Lit.int .i64 t).wf = true) (ty : TypeId) :
    ∃ w', (Builtin.delete_ #[T, 3] ty #[.map (some M), .int .i64 t]).run Tryz.prog w = .ok (.tuple #[]) w' ∧ Mp w' M n (updM f t none) ∧ Only (· = M) w w' := by
  obtain ⟨D, hD, h2⟩ := h
  obtain ⟨w', hrun, ho, hg⟩ := hD.drop (Maps.int_keyed Tryz.underlying3) ht (kyOf t hw) ty
  refine ⟨w', hrun, ⟨_, ho, fun u => ?_⟩, turned_only hg⟩
  by_cases e : u = t
  · subst e
    rw [updM_same]
    exact ⟨Maps.has_del_same, fun z => Maps.atKey_del_same z⟩
  · rw [updM_other f _ e]
    exact ⟨(Maps.has_del_other (ky_ne e)).trans (h2 u).1, fun z => (Maps.atKey_del_other (ky_ne e) z).trans ((h2 u).2 z)⟩
end
/-- At the operation: a store into the map. -/
theorem wp_putM {w : World} {ops : Array Oper} {rest : List Oper} {o : Oper} {a : Act} {Q : Exit → Act → World → Prop} (hg : o.guard = none) (m x v : Operand) (T : TypeId) (hop : o.op = Op.mapUpdate T m x v) {E : TypeId} (ht : Tryz.prog.underlying T = some (.map 3 E))
    {M n : Nat} {f : Int → Option Value} (hm : a.eval m = .map (some M)) (h : Mp w M n f) (hn : n < 1000000) {t : Int} (hx : a.eval x = .int .i64 t) (hw : (Lit.int .i64 t).wf = true) {u : Value} (hv : a.eval v = u)
    (hK : ∀ w', Mp w' M (n + 1) (updM f t (some u)) → Only (· = M) w w' → wpList Tryz.prog ops Q rest (a.put o.dst undef) w') : wpList Tryz.prog ops Q (o :: rest) a w := by
  refine wpList_plain hg fun K' hK' => ?_
  obtain ⟨w', hrun, r1, r2⟩ := h.put ht hn hw u
  unfold Oper.wp
  simp [execOp, hop, hm, hx, hv, hrun, Result.andThen]
  exact hK' _ _ (hK w' r1 r2)
theorem wp_delM {w : World} {ops : Array Oper} {rest : List Oper} {o : Oper} {a : Act} {Q : Exit → Act → World → Prop} (hg : o.guard = none) (m x : Operand) (T : TypeId) (hop : o.op = Op.call { callee := Callee.builtin Builtin.delete, args := #[m, x], argTypes := #[T, 3] }) {E : TypeId} (ht : Tryz.prog.underlying T = some (.map 3 E))
    {M n : Nat} {f : Int → Option Value} (hm : a.eval m = .map (some M)) (h : Mp w M n f) {t : Int} (hx : a.eval x = .int .i64 t) (hw : (Lit.int .i64 t).wf = true)
    (hK : ∀ w', Mp w' M n (updM f t none) → Only (· = M) w w' → wpList Tryz.prog ops Q rest (a.put o.dst (.tuple #[])) w') : wpList Tryz.prog ops Q (o :: rest) a w := by
  refine wpList_plain hg fun K' hK' => ?_
  obtain ⟨w', hrun, r1, r2⟩ := h.del ht hw o.type
  unfold Oper.wp
  simp [execOp, hop, resolve, invoke, builtin, hm, hx, hrun, Result.andThen]
  exact hK' _ _ (hK w' r1 r2)
theorem wfI {x : Int} (h : -9223372036854775808 ≤ x ∧ x < 9223372036854775808) : (Lit.int .i64 x).wf = true := by
  have h1 : IntKind.i64.min = -9223372036854775808 := rfl
  have h2 : IntKind.i64.max = 9223372036854775807 := rfl
  simp only [Lit.wf, Bool.and_eq_true, decide_eq_true_eq]
  omega
end Go.Proofs.YtigdbokfapedcaaGreat
