import Derived.Deep.OwnRows
import Derived.Laws.BitsAllLaws
import Derived.Laws.BitsLemmas
import Derived.StillTailTactics
import Derived.Deep.Cut
import Derived.Test.YtlepokgagickmaaGreatG15
import Derived.Test.YtlepokgagickmaaGreatG1
import Derived.Test.YtlepokgagickmaaGreatG2
import Derived.Test.YtlepokgagickmaaGreatG6
import Derived.Test.YtlepokgagickmaaGreatG3
import Derived.Test.YtlepokgagickmaaGreatG8
namespace Go.Proofs.YtlepokgagickmaaGreat
open Go.RowKit
def wordI (k : Int) (c : Nat) (b : Int) : Int :=
  if k = 1 ∧ c ≤ 2 then b else if k = 2 ∧ c ≤ 1 then b * 256 % 4294967296 else if k = 2 ∧ c ≤ 4 then b else if k = 3 ∧ c ≤ 1 then b * 256 % 4294967296 else if k = 3 ∧ c = 3 then b
  else if k = 6 ∧ c = 0 then b % 256 * 256 + b % 256 * 65536 else 0
theorem low8 {x : Int} (hx : 0 ≤ x ∧ x < 4294967296) : bits .and .u32 x 255 = x % 256 := by
  have := bits_mask .u32 32 (by decide) (fun k h0 h1 => by rw [IntKind.wrap_u32']; omega) 8 (by omega) x hx.1 (by simpa using hx.2)
  simpa using this
theorem both8 {b : Int} (hb : 0 ≤ b ∧ b < 4294967296) :
    bits BinOp.or IntKind.u32 (bits BinOp.and IntKind.u32 b 255 * 256 % 4294967296) (bits BinOp.and IntKind.u32 b 255 * 65536 % 4294967296) = b % 256 * 256 + b % 256 * 65536 := by
  rw [low8 hb]
  obtain ⟨X, hX⟩ := Int.eq_ofNat_of_zero_le (show 0 ≤ b % 256 by omega)
  have hX' : X < 256 := by omega
  rw [hX, show (X : Int) * 256 % 4294967296 = ((X * 256 : Nat) : Int) by omega, show (X : Int) * 65536 % 4294967296 = ((X * 65536 : Nat) : Int) by omega,
    u32_or_nat _ _ (by omega) (by omega), Nat.or_comm, nat_join 16 _ _ (by omega) (by omega)]
  omega
theorem firstWord_one (k : Int) (c : Nat) (s : ByteArray) (b : Int) (w : World) (hk : 1 ≤ k ∧ k ≤ 6) (hs : (ownV k)[c]? = some (.string s)) (hb : 0 ≤ b ∧ b < 4294967296) :
    Calls Tryz.prog 51 #[.int .i64 k, .string s, .int .u32 b] w fun e w' => e = .returned (.int .u32 (wordI k c b)) ∧ w = w' := by
  obtain ⟨b1, b2⟩ := hb
  rcases kinds hk with rfl | rfl | rfl | rfl | rfl | rfl
  · clear hk
    have hc : c < 3 := (Array.getElem?_eq_some_iff.1 hs).1
    rcases (show c = 0 ∨ c = 1 ∨ c = 2 by omega) with rfl | rfl | rfl
    all_goals
      injection (Option.some.inj hs) with hs
      subst hs
      go_enter Tryz.func51, Tryz.ntmps51
      go_wp2
      go_ret
      first | exact ⟨rfl, rfl⟩ | (refine ⟨ret_int ?_, rfl⟩; simp [wordI]; done) | (refine ⟨ret_int ?_, rfl⟩; simp [wordI]; exact both8 ⟨b1, b2⟩)
  · clear hk
    have hc : c < 5 := (Array.getElem?_eq_some_iff.1 hs).1
    rcases (show c = 0 ∨ c = 1 ∨ c = 2 ∨ c = 3 ∨ c = 4 by omega) with rfl | rfl | rfl | rfl | rfl
    all_goals
      injection (Option.some.inj hs) with hs
      subst hs
      go_enter Tryz.func51, Tryz.ntmps51
      go_wp2
      go_ret
      first | exact ⟨rfl, rfl⟩ | (refine ⟨ret_int ?_, rfl⟩; simp [wordI]; done) | (refine ⟨ret_int ?_, rfl⟩; simp [wordI]; exact both8 ⟨b1, b2⟩)
  · clear hk
    have hc : c < 4 := (Array.getElem?_eq_some_iff.1 hs).1
    rcases (show c = 0 ∨ c = 1 ∨ c = 2 ∨ c = 3 by omega) with rfl | rfl | rfl | rfl
    all_goals
      injection (Option.some.inj hs) with hs
      subst hs
      go_enter Tryz.func51, Tryz.ntmps51
      go_wp2
      go_ret
      first | exact ⟨rfl, rfl⟩ | (refine ⟨ret_int ?_, rfl⟩; simp [wordI]; done) | (refine ⟨ret_int ?_, rfl⟩; simp [wordI]; exact both8 ⟨b1, b2⟩)
  · clear hk
    have hc : c < 2 := (Array.getElem?_eq_some_iff.1 hs).1
    rcases (show c = 0 ∨ c = 1 by omega) with rfl | rfl
    all_goals
      injection (Option.some.inj hs) with hs
      subst hs
      go_enter Tryz.func51, Tryz.ntmps51
      go_wp2
      go_ret
      first | exact ⟨rfl, rfl⟩ | (refine ⟨ret_int ?_, rfl⟩; simp [wordI]; done) | (refine ⟨ret_int ?_, rfl⟩; simp [wordI]; exact both8 ⟨b1, b2⟩)
  · clear hk
    have hc : c < 1 := (Array.getElem?_eq_some_iff.1 hs).1
    rcases (show c = 0 by omega) with rfl
    all_goals
      injection (Option.some.inj hs) with hs
      subst hs
      go_enter Tryz.func51, Tryz.ntmps51
      go_wp2
      go_ret
      first | exact ⟨rfl, rfl⟩ | (refine ⟨ret_int ?_, rfl⟩; simp [wordI]; done) | (refine ⟨ret_int ?_, rfl⟩; simp [wordI]; exact both8 ⟨b1, b2⟩)
  · clear hk
    have hc : c < 1 := (Array.getElem?_eq_some_iff.1 hs).1
    rcases (show c = 0 by omega) with rfl
    all_goals
      injection (Option.some.inj hs) with hs
      subst hs
      go_enter Tryz.func51, Tryz.ntmps51
      go_wp2
      go_ret
      first | exact ⟨rfl, rfl⟩ | (refine ⟨ret_int ?_, rfl⟩; simp [wordI]; done) | (refine ⟨ret_int ?_, rfl⟩; simp [wordI]; exact both8 ⟨b1, b2⟩)
theorem infoF : (Tryz.prog.info? 22).map (fun i => (i.zero, i.size, i.bytes)) = some (some (.int .u32 0), 1, 4) := by kernel_rfl
def words (k : Int) (S c : Nat) (b : Int) : List Int := (List.range S).map fun j => if j < c then wordI k j b else 0
def cellsOf (l : List Int) : Array Value := (l.map (Value.int .u32)).toArray
theorem words_len (k : Int) (S c : Nat) (b : Int) : (words k S c b).length = S := by simp [words]
theorem words_zero (k : Int) (S : Nat) (b : Int) : words k S 0 b = List.replicate S 0 := by
  apply List.ext_getElem
  · simp [words]
  · intro i h1 h2; simp [words]
theorem words_at (k : Int) (S c : Nat) (b : Int) (h : c < S) : (cellsOf (words k S c b))[c]? = some (.int .u32 0) := by
  simp [cellsOf, words, h]
theorem words_next (k : Int) (S c : Nat) (b : Int) : (cellsOf (words k S c b)).setIfInBounds c (.int .u32 (wordI k c b)) = cellsOf (words k S (c + 1) b) := by
  apply Array.ext_getElem?
  intro i
  rw [Array.getElem?_setIfInBounds]
  by_cases hi : c = i
  · subst hi
    by_cases hS : c < S
    · simp [cellsOf, words, hS]
    · simp [cellsOf, words, hS]
  · simp only [hi, if_false]
    simp only [cellsOf, words, List.getElem?_toArray, List.getElem?_map]
    rcases Nat.lt_or_ge i S with h | h
    · rw [List.getElem?_range h]
      simp only [Option.map_some]
      by_cases h2 : i < c
      · rw [if_pos h2, if_pos (by omega)]
      · rw [if_neg h2, if_neg (by omega)]
    · rw [List.getElem?_eq_none (by simpa using h)]
      rfl
theorem made_is (k : Int) (S : Nat) (b : Int) : madeCells #[.int .u32 0] S = cellsOf (words k S 0 b) := by
  apply Array.ext'
  rw [toList_madeCells_one, words_zero]
  simp [cellsOf]
def FirstAt (k b : Int) (S : Nat) (w : World) (e : Ending) (w' : World) : Prop :=
  ∃ g, e = .returned (.tuple #[.slice (some ⟨g, 0, none⟩) S S, .int .i64 0]) ∧ w.heap.size ≤ g ∧ Row w' g 22 (cellsOf (words k S (ownV k).size b)) ∧ Only Nil w w'
set_option maxHeartbeats 1000000 in
theorem first_yes (k n b : Int) (S : Nat) (w : World) (hk : 1 ≤ k ∧ k ≤ 6) (hn : 1 ≤ n ∧ n ≤ 64) (hS : sizeI n = S) (hb : 0 ≤ b ∧ b < 4294967296) :
    Calls Tryz.prog 24 #[.int .i64 k, .int .i64 n, .int .u32 b] w (FirstAt k b S w) := by
  have hz : sizeI n = 8 + 4 * n := if_pos hn
  have s1 : 12 ≤ S := by omega
  have s2 : S ≤ 300 := by omega
  have HS := Lib.hid hS
  have HB := Lib.hid hb
  have HK := Lib.hid hk
  have HN := Lib.hid hn
  clear hz hS hb hk hn
  have hmk := fun W => run_make_row' (P := Tryz.prog) 44 22 (.int .u32 0) 4 Tryz.underlying44 infoF rfl .i64 .i64 S (by omega) (by omega) W
  have qT : ∀ (w : World) (a : Option Addr) (n c n' c' : Nat), (binOp .eql 96 (.slice a n c) (.slice none n' c')).run Tryz.prog w = .ok (.bool a.isNone) w := fun w a n c n' c' => Lib.run_eql_slice_nil w _ _ a n c n' c' Tryz.underlying96
  go_enter Tryz.func24, Tryz.ntmps24
  go_wp2_with fail
  refine (ownNames_yes k _ HK.out).mono ?_
  intro e w1 hF
  obtain ⟨gn, rfl, hgn, hR, hO⟩ := hF
  have HL := Lib.hid (own_size k HK.out)
  have HA := Lib.hid (name_at k HK.out)
  have HWX := Lib.hid (firstWord_one k)
  generalize hLe : (ownV k).size = L at *
  have HLE := Lib.hid hLe
  have HR1 := Lib.hid hR
  have HO1 := Lib.hid hO
  have HG := Lib.hid hgn
  clear hLe hR hO hgn
  go_wp2_with fail
  refine (new_yes n _ HN.out).mono ?_
  rintro e w2 ⟨rfl, hO⟩
  have HO2 := Lib.hid ((HO1.out.trans hO).alloc (.cells #[.int .i64 n] 72))
  have HR2 := Lib.hid ((HR1.out.only hO id).alloc (.cells #[.int .i64 n] 72))
  clear hO
  go_wp2_with fail
  refine (size_any n _).mono ?_
  rw [HS.out]
  rintro e w3 ⟨rfl, hO⟩
  have HO3 := Lib.hid (HO2.out.trans hO)
  have HR3 := Lib.hid (HR2.out.only hO id)
  clear hO
  go_wp2
  have HM : Hid (Row (w3.alloc (.cells (madeCells #[.int .u32 0] S) 22)) w3.heap.size 22 (cellsOf (words k S 0 b))) := Lib.hid (by rw [← made_is]; exact Row.new _ _ _)
  have HO4 := Lib.hid (HO3.out.alloc (.cells (madeCells #[.int .u32 0] S) 22))
  have HR4 := Lib.hid (HR3.out.alloc (.cells (madeCells #[.int .u32 0] S) 22))
  have l1 := HL.out.1
  have l2 := HL.out.2
  have HZ := Lib.hid (show w.heap.size ≤ w3.heap.size ∧ gn < w3.heap.size from ⟨HO3.out.size, HR3.out.lt⟩)
  generalize w3.heap.size = gw at *
  clear hmk qT
  go_loopw [31] (fun i wr => ∃ c : Nat, c ≤ L ∧ i = .int .i64 c ∧ Row wr gw 22 (cellsOf (words k S c b)) ∧ Row wr gn 9 (ownV k) ∧ Only Nil w wr) (fun i _ => L - (intOf i).toNat)
  case atStart => exact ⟨0, Nat.zero_le _, rfl, HM.out, HR4.out, HO4.out⟩
  case round =>
    obtain ⟨c, hc, rfl, hrw, hrn, hor⟩ := hrel
    have HRW := Lib.hid hrw
    have HRN := Lib.hid hrn
    have HOR := Lib.hid hor
    clear hrw hrn hor
    by_cases hlt : c < L
    · obtain ⟨s, hs⟩ := HA.out c hlt
      have hcs : c < S := by omega
      have c0 := HRN.out.cell_ hs
      have c1 := HRW.out.cell_ (words_at k S c b hcs)
      have f1 := HRW.out.frozen c
      have HSS := Lib.hid hs
      clear hs
      go_wp2_with fail
      refine (HWX.out c s b _ HK.out HSS.out HB.out).mono ?_
      rintro e w' ⟨rfl, rfl⟩
      generalize hwd : wordI k c b = wd
      have HWD := Lib.hid hwd
      clear hwd
      go_wp2
      have hfin := HRW.out.set c (.int .u32 wd)
      rw [← HWD.out, words_next] at hfin
      refine ⟨⟨c + 1, by omega, by go_num, by rw [← HWD.out]; exact hfin, HRN.out.far (by have := HZ.out.2; simp; omega) _, HOR.out.setCell (p := ⟨gw, c, none⟩) (.inl HZ.out.1) _⟩, by simp [intOf]; omega⟩
    · have hkn : c = L := by omega
      have HC := Lib.hid hkn
      clear hkn
      go_wp2
      go_ret2
      refine ⟨gw, rfl, HZ.out.1, ?_, HOR.out⟩
      rw [HLE.out, ← HC.out]
      exact HRW.out
theorem first_no_n (k n b : Int) (w : World) (hk : 1 ≤ k ∧ k ≤ 6) (hn : ¬ (1 ≤ n ∧ n ≤ 64)) :
    Calls Tryz.prog 24 #[.int .i64 k, .int .i64 n, .int .u32 b] w fun e w' => e = .returned (.tuple #[.slice none 0 0, .int .i64 2]) ∧ Only Nil w w' := by
  have qT : ∀ (w : World) (a : Option Addr) (n c n' c' : Nat), (binOp .eql 96 (.slice a n c) (.slice none n' c')).run Tryz.prog w = .ok (.bool a.isNone) w := fun w a n c n' c' => Lib.run_eql_slice_nil w _ _ a n c n' c' Tryz.underlying96
  have HK := Lib.hid hk
  have HN := Lib.hid hn
  clear hk hn
  go_enter Tryz.func24, Tryz.ntmps24
  go_wp2_with fail
  refine (ownNames_yes k _ HK.out).mono ?_
  intro e w1 hF
  obtain ⟨gn, rfl, hgn, hR, hO⟩ := hF
  generalize (ownV k).size = L at *
  have HO1 := Lib.hid hO
  clear hR hO hgn
  go_wp2_with fail
  refine (new_no n _ HN.out).mono ?_
  rintro e w2 ⟨rfl, hO⟩
  have HO2 := Lib.hid ((HO1.out.trans hO).alloc (.cells #[.int .i64 0] 72))
  clear hO
  go_wp2
  go_ret2
  exact ⟨rfl, HO2.out⟩
end Go.Proofs.YtlepokgagickmaaGreat
set_option linter.unusedVariables false
set_option linter.unusedSimpArgs false
namespace Go.Proofs.YtlepokgagickmaaGreat
open Go.RowKit
theorem Own.row_ {w : World} {g base : Nat} {xs : List Int} (hR : Row w g 22 (cellsOf xs)) (hm : xs.length ≤ 1024) (hb : base ≤ g) : Own w base (some ⟨g, 0, none⟩) xs.length xs :=
  ⟨⟨by simp, .inr ⟨g, xs.length, cellsOf xs, rfl, hb, hR, Nat.le_refl _, by simp [maxLen]; omega, by simp [cellsOf], by
    rw [List.take_of_length_le (by simp [cellsOf])]
    simp [cellsOf]⟩⟩, (by intro h; cases h), fun i ⟨a, ha, hi⟩ => by cases ha; exact hi ▸ hb⟩
end Go.Proofs.YtlepokgagickmaaGreat
set_option linter.unusedVariables false
set_option linter.unusedSimpArgs false
namespace Go.Proofs.YtlepokgagickmaaGreat
open Go.RowKit
def Fresh (w : World) (xs : List Int) (e : Ending) (w' : World) : Prop := ∃ b A' c', e = .returned (.tuple #[.pointer (some ⟨b, 0, none⟩), .int .i64 0]) ∧ w.heap.size ≤ b ∧ (∀ i, At A' i → w.heap.size ≤ i) ∧ Mem w' b A' c' xs ∧ Only Nil w w'
theorem from_ok (A : Option Addr) (n cap : Nat) (xs : List Int) (w : World) (hm : n ≤ 1024) (h : Held w A n cap xs) :
    Calls Tryz.prog 26 #[.slice A n cap] w (Fresh w xs) := by
  have hl := h.1
  have hm' : (n : Int) ≤ 1024 := by omega
  have HH := Lib.hid h
  have HL := Lib.hid hl
  clear h hl
  go_enter Tryz.func26, Tryz.ntmps26
  go_wp2_with (go_at_call 53; refine (clone_held A n cap xs _ (by omega) HH.out).mono ?_; rintro e w1 ⟨A', c', rfl, ho, hO⟩)
  have HO := Lib.hid ho
  have HW := Lib.hid hO
  clear ho hO
  go_ret2
  refine ⟨w1.heap.size, A', c', rfl, HW.out.size, HO.out.base, ⟨Row.new w1 _ _, ?_, ?_⟩, HW.out.alloc _⟩
  · exact ⟨own_base (own_only HO.out.own ((Only.refl Nil w1).alloc _) (fun _ _ h => h)) (Nat.zero_le _), HO.out.nil, fun _ _ => Nat.zero_le _⟩
  · rw [HL.out]; exact hm
end Go.Proofs.YtlepokgagickmaaGreat
set_option linter.unusedVariables false
set_option linter.unusedSimpArgs false
namespace Go.Proofs.YtlepokgagickmaaGreat
open Go.RowKit
def newR (k mode task op : Int) (xs : List Int) : LS := ⟨k, mode, task, op, 0, 0, 0, 0, wk0, 0, acc0, [], xs⟩
end Go.Proofs.YtlepokgagickmaaGreat
set_option linter.unusedVariables false
set_option linter.unusedSimpArgs false
namespace Go.Proofs.YtlepokgagickmaaGreat
open Go.RowKit
def xs0 (kind : Int) (k : Nat) (b : Int) : List Int := words kind (8 + 4 * k) (ownV kind).size b
def mv0 (kind mode : Int) (k : Nat) (b : Int) : MV := ⟨fun t => newR k mode t 0 (xs0 kind k b), fun _ => 0, xs0 kind k b⟩
theorem wordI_wrd (k : Int) (c : Nat) {b : Int} (hb : Wrd b) : Wrd (wordI k c b) := by
  unfold Wrd at *
  unfold wordI
  repeat' split
  all_goals first | exact hb | omega
theorem mv0_ok {kind mode : Int} {k : Nat} {b : Int} (hb : Wrd b) : WdI mode k (mv0 kind mode k b) := by
  refine ⟨words_len _ _ _ _, fun n hn => ?_, fun t ht => ⟨rfl, rfl, rfl, wd_0, wd_0, ⟨show (0 : Int) ≤ 0 by decide, show (0 : Int) ≤ 2 by decide⟩, show (0 : Int) ≤ 0 by decide, show (0 : Int) ≤ 8 by decide⟩, fun t ht => .inl rfl, fun t ht _ => rfl⟩
  have hn' : n ∈ words kind (8 + 4 * k) (ownV kind).size b := hn
  unfold words at hn'
  obtain ⟨j, _, rfl⟩ := List.mem_map.1 hn'
  split
  · have := wordI_wrd kind j hb
    exact wf_mk this.1 this.2
  · exact wf_mk (by decide) (by decide)
def WNew (W : World) (kind mode : Int) (k : Nat) (m : MV) (e : Ending) (w' : World) : Prop :=
  ∃ g gt b A cp, e = .returned (.tuple #[.pointer (some ⟨g, 0, none⟩), .int .i64 0]) ∧ WdP w' g gt b A cp kind mode k m ∧ Only Nil W w' ∧ W.heap.size ≤ g ∧ W.heap.size ≤ gt ∧ W.heap.size ≤ b ∧ ∀ j, At A j → W.heap.size ≤ j
def WNone (W : World) (er : Int) (e : Ending) (w' : World) : Prop := e = .returned (.tuple #[.pointer none, .int .i64 er]) ∧ Only Nil W w'
theorem lines_fn {kind : Int} (hk : 1 ≤ kind ∧ kind ≤ 6) : ∃ F, linesF kind = .func (.func F) #[] #[] := by
  have hc : kind = 1 ∨ kind = 2 ∨ kind = 3 ∨ kind = 4 ∨ kind = 5 ∨ kind = 6 := by omega
  rcases hc with rfl | rfl | rfl | rfl | rfl | rfl <;> exact ⟨_, rfl⟩
theorem lines_nil {kind : Int} (hk : ¬ (1 ≤ kind ∧ kind ≤ 6)) : linesF kind = .nilFunc := by
  unfold linesF
  rw [if_neg (by omega), if_neg (by omega), if_neg (by omega), if_neg (by omega), if_neg (by omega), if_neg (by omega)]
set_option maxHeartbeats 2000000 in
theorem wnew_kind (kind mode n b : Int) (W : World) (hk : ¬ (1 ≤ kind ∧ kind ≤ 6)) :
    Calls Tryz.prog 7 #[.int .i64 kind, .int .i64 mode, .int .i64 n, .int .u32 b] W (WNone W 3) := by
  have HL := Lib.hid (lines_any kind)
  rw [decide_eq_false hk, lines_nil hk] at HL
  clear hk
  go_enter Tryz.func7, Tryz.ntmps7
  go_wp2_with fail
  refine (HL.out _).mono ?_
  rintro e w1 ⟨rfl, rfl⟩
  clear HL
  go_wp2
  go_ret2
  exact ⟨rfl, Only.refl _ _⟩
set_option maxHeartbeats 2000000 in
theorem wnew_mode (kind mode n b : Int) (W : World) (hk : 1 ≤ kind ∧ kind ≤ 6) (hm : ¬ (mode = 1 ∨ mode = 2)) :
    Calls Tryz.prog 7 #[.int .i64 kind, .int .i64 mode, .int .i64 n, .int .u32 b] W (WNone W 1) := by
  have HL := Lib.hid (lines_any kind)
  obtain ⟨F, hF⟩ := lines_fn hk
  rw [decide_eq_true hk, hF] at HL
  have h1 : (mode != 1) = true := bne_iff_ne.2 fun h => hm (.inl h)
  have h2 : (mode != 2) = true := bne_iff_ne.2 fun h => hm (.inr h)
  clear hk hm hF
  go_enter Tryz.func7, Tryz.ntmps7
  go_wp2_with fail
  refine (HL.out _).mono ?_
  rintro e w1 ⟨rfl, rfl⟩
  clear HL
  go_wp2
  go_ret2
  exact ⟨rfl, Only.refl _ _⟩
set_option maxHeartbeats 2000000 in
theorem wnew_n (kind mode n b : Int) (W : World) (hk : 1 ≤ kind ∧ kind ≤ 6) (hm : mode = 1 ∨ mode = 2) (hn : ¬ (1 ≤ n ∧ n ≤ 64)) :
    Calls Tryz.prog 7 #[.int .i64 kind, .int .i64 mode, .int .i64 n, .int .u32 b] W (WNone W 2) := by
  have HL := Lib.hid (lines_any kind)
  obtain ⟨F, hF⟩ := lines_fn hk
  rw [decide_eq_true hk, hF] at HL
  have HK := Lib.hid hk
  have HN := Lib.hid hn
  clear hk hn hF
  rcases hm with rfl | rfl
  all_goals
    go_enter Tryz.func7, Tryz.ntmps7
    go_wp2_with fail
    refine (HL.out _).mono ?_
    rintro e w1 ⟨rfl, rfl⟩
    clear HL
    go_wp2_with fail
    refine (first_no_n kind n b _ HK.out HN.out).mono ?_
    rintro e w2 ⟨rfl, hO⟩
    have HO := Lib.hid hO
    clear hO
    go_wp2
    go_ret2
    exact ⟨rfl, HO.out⟩
set_option maxRecDepth 100000 in
set_option maxHeartbeats 2000000 in
theorem wnew_yes (kind mode b : Int) (k : Nat) (W : World) (hk : 1 ≤ kind ∧ kind ≤ 6) (hm : mode = 1 ∨ mode = 2) (hn : 1 ≤ k ∧ k ≤ 64) (hb : 0 ≤ b ∧ b < 4294967296) :
    Calls Tryz.prog 7 #[.int .i64 kind, .int .i64 mode, .int .i64 k, .int .u32 b] W (WNew W kind mode k (mv0 kind mode k b)) := by
  have HL := Lib.hid (lines_any kind)
  obtain ⟨F, hF⟩ := lines_fn hk
  rw [decide_eq_true hk, hF] at HL
  have HF := Lib.hid hF
  have hs : sizeI k = 8 + 4 * k := if_pos (by omega)
  have HFI := Lib.hid (show ∀ w, Calls _ _ _ w _ from fun w => first_yes kind k b (8 + 4 * k) w hk (by omega) (by rw [hs]; omega) hb)
  have HPN := Lib.hid (show ∀ w, Calls _ _ _ w _ from fun w => new_yes (k : Int) w (by omega))
  have HKK := Lib.hid (show 8 + 4 * k ≤ 264 by omega)
  have hmk := fun W => make_tasks k hn.2 W
  have q0 : ¬ (k : Int) < 0 := by omega
  clear hs hk hn hb hF
  rcases hm with rfl | rfl
  · skip
    go_enter Tryz.func7, Tryz.ntmps7
    go_wp2_with fail
    refine (HL.out _).mono ?_
    rintro e w1 ⟨rfl, rfl⟩
    clear HL
    go_wp2_with fail
    refine (HFI.out _).mono ?_
    rintro e w2 ⟨gl, rfl, hg, hR, hO⟩
    have HL2 := Lib.hid (And.intro hg (And.intro hR hO))
    clear hg hR hO HFI
    go_wp2_with fail
    refine (HPN.out _).mono ?_
    rintro e w3 ⟨rfl, hO⟩
    have HO3 := Lib.hid hO
    clear hO HPN
    have e3 := (Only.refl Nil w3).alloc (.cells #[.int .i64 k] 72)
    go_wp2_with fail
    have hlen : (xs0 kind k b).length = 8 + 4 * k := words_len _ _ _ _
    have hown : Own (w3.alloc (.cells #[.int .i64 k] 72)) 0 (some ⟨gl, 0, none⟩) (xs0 kind k b).length (xs0 kind k b) := Own.row_ (xs := xs0 kind k b) ((HL2.out.2.1.only HO3.out id).only e3 id) (by have := HKK.out; omega) (Nat.zero_le _)
    have hheld := hown.held
    rw [hlen] at hheld
    refine (from_ok _ _ _ (xs0 kind k b) _ (by have := HKK.out; omega) hheld).mono ?_
    rintro e w4 ⟨bm, A', cp', rfl, hb, hA, hM, hO⟩
    have HM := Lib.hid hM
    have HO4 := Lib.hid ((HL2.out.2.2.trans HO3.out).trans (e3.trans hO))
    have HS4 := Lib.hid (show W.heap.size ≤ (w3.alloc (.cells #[.int .i64 k] 72)).heap.size from ((HL2.out.2.2.trans HO3.out).trans e3).size)
    have HB := Lib.hid (And.intro (Nat.le_trans HS4.out hb) (fun j hj => Nat.le_trans HS4.out (hA j hj)))
    have HMP := Lib.hid ((Row.new w3 72 #[.int .i64 k]).only hO id)
    clear hlen hown hheld e3 hb hA hM hO HS4 HL2 HO3
    generalize w3.heap.size = M at *
    have m0 : w4.cell? ⟨M, 0, none⟩ = some (.int .i64 k) := HMP.out.cell_ (i := 0) rfl
    go_upto_region 11 with (fail)
    refine wp_region_phase (n := 11) 8 (fun w => w.cell? ⟨M, 0, none⟩ = some (.int .i64 k)) rfl (by kernel_rfl) m0 (fun hHeld => ?_)
    have HM5 := Lib.hid (HM.out.only (Only.refl Nil w4).drew id (fun _ _ => id))
    have HO5 := Lib.hid HO4.out.drew
    have HMP5 := Lib.hid HMP.out.drew
    have HZ5 := Lib.hid (show W.heap.size ≤ w4.drew.heap.size from HO4.out.size)
    clear HM HO4 HMP m0
    generalize w4.drew = w5 at *
    refine za 0 rfl ?_
    refine za 1 rfl ?_
    refine za 2 rfl ?_
    refine za 3 rfl ?_
    refine zt 4 rfl ?_
    refine za 5 rfl ?_
    refine mpc 6 rfl (by kernel_rfl) (by rfl) (fun K hK => ?_)
    go_simp
    have e6 := (Only.refl Nil w5).alloc (.cells (madeCells zeroT (k * 11)) 59)
    have hH6 : (w5.alloc (.cells (madeCells zeroT (k * 11)) 59)).cell? ⟨M, 0, none⟩ = some (.int .i64 k) := (HMP5.out.only e6 id).cell_ (i := 0) rfl
    have HT6 := Lib.hid (show Tasks (w5.alloc (.cells (madeCells zeroT (k * 11)) 59)) w5.heap.size k (fun _ => 0) (fun t => newR k 1 t 0 (xs0 kind k b)) from tasks_zero (fun i hi => rfl) (Row.new w5 59 _))
    have HM6 := Lib.hid (HM5.out.only e6 id (fun _ _ => id))
    have HO6 := Lib.hid (HO5.out.trans e6)
    have HZ6 := Lib.hid (Nat.le_trans HZ5.out (Nat.le_succ _))
    refine hK.out _ _ (.inr hH6) ?_
    clear hK K hHeld HM5 HO5 HMP5 e6 hmk
    have HZZ := Lib.hid (show ∀ V : World, V = w5 → V.heap.size ≤ w5.heap.size from fun _ h => h ▸ Nat.le_refl _)
    generalize w5.alloc _ = w6 at *
    generalize w5.heap.size = GT at *
    refine za 7 rfl ?_
    refine mpc 8 rfl (by kernel_rfl) (by rfl) (fun K hK => ?_)
    go_simp
    have e8 := (Only.refl Nil w6).alloc (.cells #[.int .i64 kind, .int .i64 1, .func (.func F) #[] #[], .pointer (some ⟨bm, 0, none⟩), .int .i64 k, .slice (some ⟨GT, 0, none⟩) k k] 79)
    have HWW := Lib.hid (show WdP (w6.alloc (.cells #[.int .i64 kind, .int .i64 1, .func (.func F) #[] #[], .pointer (some ⟨bm, 0, none⟩), .int .i64 k, .slice (some ⟨GT, 0, none⟩) k k] 79)) w6.heap.size GT bm A' cp' kind 1 k (mv0 kind 1 k b) from ⟨by unfold wdCs; rw [HF.out]; exact Row.new w6 _ _, HM6.out.only e8 id (fun _ _ => id), HT6.out.only e8 id⟩)
    have HO8 := Lib.hid (HO6.out.trans e8)
    refine hK.out _ _ (.inl (by kernel_rfl)) ?_
    clear hK K hH6 HM6 HT6 e8
    generalize w6.alloc _ = w8 at *
    have HL8 := Lib.hid HO6.out.size
    generalize w6.heap.size = G8 at *
    refine za 9 rfl ?_
    refine za 10 rfl ?_
    refine wpAnyP_done (by kernel_rfl) ?_ _
    go_wp2
    go_ret2
    exact ⟨G8, GT, bm, A', cp', rfl, HWW.out, HO8.out, HL8.out, HZ5.out, HB.out.1, HB.out.2⟩
  · skip
    go_enter Tryz.func7, Tryz.ntmps7
    go_wp2_with fail
    refine (HL.out _).mono ?_
    rintro e w1 ⟨rfl, rfl⟩
    clear HL
    go_wp2_with fail
    refine (HFI.out _).mono ?_
    rintro e w2 ⟨gl, rfl, hg, hR, hO⟩
    have HL2 := Lib.hid (And.intro hg (And.intro hR hO))
    clear hg hR hO HFI
    go_wp2_with fail
    refine (HPN.out _).mono ?_
    rintro e w3 ⟨rfl, hO⟩
    have HO3 := Lib.hid hO
    clear hO HPN
    have e3 := (Only.refl Nil w3).alloc (.cells #[.int .i64 k] 72)
    go_wp2_with fail
    have hlen : (xs0 kind k b).length = 8 + 4 * k := words_len _ _ _ _
    have hown : Own (w3.alloc (.cells #[.int .i64 k] 72)) 0 (some ⟨gl, 0, none⟩) (xs0 kind k b).length (xs0 kind k b) := Own.row_ (xs := xs0 kind k b) ((HL2.out.2.1.only HO3.out id).only e3 id) (by have := HKK.out; omega) (Nat.zero_le _)
    have hheld := hown.held
    rw [hlen] at hheld
    refine (from_ok _ _ _ (xs0 kind k b) _ (by have := HKK.out; omega) hheld).mono ?_
    rintro e w4 ⟨bm, A', cp', rfl, hb, hA, hM, hO⟩
    have HM := Lib.hid hM
    have HO4 := Lib.hid ((HL2.out.2.2.trans HO3.out).trans (e3.trans hO))
    have HS4 := Lib.hid (show W.heap.size ≤ (w3.alloc (.cells #[.int .i64 k] 72)).heap.size from ((HL2.out.2.2.trans HO3.out).trans e3).size)
    have HB := Lib.hid (And.intro (Nat.le_trans HS4.out hb) (fun j hj => Nat.le_trans HS4.out (hA j hj)))
    have HMP := Lib.hid ((Row.new w3 72 #[.int .i64 k]).only hO id)
    clear hlen hown hheld e3 hb hA hM hO HS4 HL2 HO3
    generalize w3.heap.size = M at *
    have m0 : w4.cell? ⟨M, 0, none⟩ = some (.int .i64 k) := HMP.out.cell_ (i := 0) rfl
    go_upto_region 11 with (fail)
    refine wp_region_phase (n := 11) 8 (fun w => w.cell? ⟨M, 0, none⟩ = some (.int .i64 k)) rfl (by kernel_rfl) m0 (fun hHeld => ?_)
    have HM5 := Lib.hid (HM.out.only (Only.refl Nil w4).drew id (fun _ _ => id))
    have HO5 := Lib.hid HO4.out.drew
    have HMP5 := Lib.hid HMP.out.drew
    have HZ5 := Lib.hid (show W.heap.size ≤ w4.drew.heap.size from HO4.out.size)
    clear HM HO4 HMP m0
    generalize w4.drew = w5 at *
    refine za 0 rfl ?_
    refine za 1 rfl ?_
    refine za 2 rfl ?_
    refine za 3 rfl ?_
    refine zt 4 rfl ?_
    refine za 5 rfl ?_
    refine mpc 6 rfl (by kernel_rfl) (by rfl) (fun K hK => ?_)
    go_simp
    have e6 := (Only.refl Nil w5).alloc (.cells (madeCells zeroT (k * 11)) 59)
    have hH6 : (w5.alloc (.cells (madeCells zeroT (k * 11)) 59)).cell? ⟨M, 0, none⟩ = some (.int .i64 k) := (HMP5.out.only e6 id).cell_ (i := 0) rfl
    have HT6 := Lib.hid (show Tasks (w5.alloc (.cells (madeCells zeroT (k * 11)) 59)) w5.heap.size k (fun _ => 0) (fun t => newR k 2 t 0 (xs0 kind k b)) from tasks_zero (fun i hi => rfl) (Row.new w5 59 _))
    have HM6 := Lib.hid (HM5.out.only e6 id (fun _ _ => id))
    have HO6 := Lib.hid (HO5.out.trans e6)
    have HZ6 := Lib.hid (Nat.le_trans HZ5.out (Nat.le_succ _))
    refine hK.out _ _ (.inr hH6) ?_
    clear hK K hHeld HM5 HO5 HMP5 e6 hmk
    have HZZ := Lib.hid (show ∀ V : World, V = w5 → V.heap.size ≤ w5.heap.size from fun _ h => h ▸ Nat.le_refl _)
    generalize w5.alloc _ = w6 at *
    generalize w5.heap.size = GT at *
    refine za 7 rfl ?_
    refine mpc 8 rfl (by kernel_rfl) (by rfl) (fun K hK => ?_)
    go_simp
    have e8 := (Only.refl Nil w6).alloc (.cells #[.int .i64 kind, .int .i64 2, .func (.func F) #[] #[], .pointer (some ⟨bm, 0, none⟩), .int .i64 k, .slice (some ⟨GT, 0, none⟩) k k] 79)
    have HWW := Lib.hid (show WdP (w6.alloc (.cells #[.int .i64 kind, .int .i64 2, .func (.func F) #[] #[], .pointer (some ⟨bm, 0, none⟩), .int .i64 k, .slice (some ⟨GT, 0, none⟩) k k] 79)) w6.heap.size GT bm A' cp' kind 2 k (mv0 kind 2 k b) from ⟨by unfold wdCs; rw [HF.out]; exact Row.new w6 _ _, HM6.out.only e8 id (fun _ _ => id), HT6.out.only e8 id⟩)
    have HO8 := Lib.hid (HO6.out.trans e8)
    refine hK.out _ _ (.inl (by kernel_rfl)) ?_
    clear hK K hH6 HM6 HT6 e8
    generalize w6.alloc _ = w8 at *
    have HL8 := Lib.hid HO6.out.size
    generalize w6.heap.size = G8 at *
    refine za 9 rfl ?_
    refine za 10 rfl ?_
    refine wpAnyP_done (by kernel_rfl) ?_ _
    go_wp2
    go_ret2
    exact ⟨G8, GT, bm, A', cp', rfl, HWW.out, HO8.out, HL8.out, HZ5.out, HB.out.1, HB.out.2⟩
end Go.Proofs.YtlepokgagickmaaGreat
set_option linter.unusedVariables false
set_option linter.unusedSimpArgs false
namespace Go.Proofs.YtlepokgagickmaaGreat
open Go.RowKit
theorem woHold_any (g gt b : Nat) (A : Option Addr) (cp : Nat) (kind mode : Int) (k : Nat) (m : MV) (t : Int) (w : World) (h : WdP w g gt b A cp kind mode k m) :
    Calls Tryz.prog 19 #[.pointer (some ⟨g, 0, none⟩), .int .i64 t] w fun e w' => e = .returned (.int .i64 (if 0 ≤ t ∧ t < k then m.hold t.toNat else 0)) ∧ w = w' := by
  by_cases ht : 0 ≤ t ∧ t < k
  · rw [if_pos ht]
    obtain ⟨i, rfl⟩ : ∃ i : Nat, t = i := ⟨t.toNat, by omega⟩
    rw [show (i : Int).toNat = i from rfl]
    have hi : i < k := by omega
    have a5 : w.cell? ⟨g, 5, none⟩ = some (.slice (some ⟨gt, 0, none⟩) k k) := h.row.cell_ (i := 5) rfl
    have d0 : w.cell? ⟨gt, i * 11, none⟩ = some (.int .i64 (m.hold i)) := h.tasks.cell hi 0 rfl
    have HH := Lib.hid (woHas_any g gt b A cp kind mode k m i w h)
    rw [decide_eq_true ht] at HH
    have q2 : (i : Int) < k := by omega
    have q3 : (0 : Int) ≤ i := by omega
    have q4 : (i : Int).toNat = i := rfl
    clear h ht
    go_enter Tryz.func19, Tryz.ntmps19
    go_wp2_with fail
    refine HH.out.mono ?_
    rintro e w1 ⟨rfl, rfl⟩
    go_wp2
    go_ret
    exact ⟨rfl, rfl⟩
  · rw [if_neg ht]
    have HH := Lib.hid (woHas_any g gt b A cp kind mode k m t w h)
    rw [decide_eq_false ht] at HH
    clear h ht
    go_enter Tryz.func19, Tryz.ntmps19
    go_wp2_with fail
    refine HH.out.mono ?_
    rintro e w1 ⟨rfl, rfl⟩
    go_wp2
    go_ret
    exact ⟨rfl, rfl⟩
theorem woHold_nil (t : Int) (w : World) : Calls Tryz.prog 19 #[.pointer none, .int .i64 t] w fun e w' => e = .returned (.int .i64 0) ∧ w = w' := by
  have HH := Lib.hid (woHas_nil t w)
  go_enter Tryz.func19, Tryz.ntmps19
  go_wp2_with fail
  refine HH.out.mono ?_
  rintro e w1 ⟨rfl, rfl⟩
  go_wp2
  go_ret
  exact ⟨rfl, rfl⟩
theorem woBusy_nil (t : Int) (w : World) : Calls Tryz.prog 20 #[.pointer none, .int .i64 t] w fun e w' => e = .returned (.int .i64 0) ∧ w = w' := by
  have HH := Lib.hid (woHas_nil t w)
  go_enter Tryz.func20, Tryz.ntmps20
  go_wp2_with fail
  refine HH.out.mono ?_
  rintro e w1 ⟨rfl, rfl⟩
  go_wp2
  go_ret
  exact ⟨rfl, rfl⟩
end Go.Proofs.YtlepokgagickmaaGreat
set_option linter.unusedVariables false
set_option linter.unusedSimpArgs false
namespace Go.Proofs.YtlepokgagickmaaGreat
open Go.RowKit
section
variable {mode kind : Int} {k : Nat} {m : MV}
theorem put_xs (m : MV) (t : Nat) (r : LS) : (m.put t r).xs = r.xs := by
  unfold MV.put
  split <;> rfl
theorem pick_acc (h : WdI mode k m) (t o : Int) : Acc1 m.xs (eventW (linesI kind) k m t o).acc (pickW (linesI kind) k m t o).xs := by
  unfold eventW pickW
  split
  case isFalse => exact acc1_none _
  case isTrue ht =>
    have ht' : t.toNat < k := by omega
    have hs : ∀ (m' : MV) (told : List Nt), WdI mode k m' → m'.xs = m.xs → Acc1 m.xs (stepE (linesI kind) m' t.toNat told).acc (m'.step (linesI kind) t.toNat).xs := fun m' told h' e => by
      have hn := (h'.next (kind := kind) ht').2.2.2.2.2.2
      unfold MV.step
      rw [put_xs, ← e]
      exact hn
    unfold pickE pickI
    repeat' split
    · rename_i _ ho _; exact hs _ _ (h.start ht' ho) rfl
    · exact acc1_none _
    · exact acc1_none _
    · exact acc1_none _
    · exact hs _ _ h rfl
theorem acc_case {xs xs' : List Int} {a : Acc5} (h : Acc1 xs a xs') : (a = acc0 ∧ xs' = xs) ∨ ∃ kd c x y, 1 ≤ kd ∧ doOk xs kd c = true ∧ a = ⟨kd, c, x, y, wordAt xs c⟩ ∧ xs' = doNew xs kd c x y := by
  obtain ⟨kd, c, x, y, hk, ha, hx⟩ := h
  cases hd : doOk xs kd c
  · refine .inl ⟨?_, ?_⟩
    · rw [ha]; unfold accI; rw [hd]; rfl
    · rw [hx]; unfold doNew; rw [hd]; rfl
  · refine .inr ⟨kd, c, x, y, ?_, hd, ?_, hx⟩
    · unfold isKind at hk
      exact (of_decide_eq_true hk).1
    · rw [ha]; unfold accI; rw [hd]; rfl
end
end Go.Proofs.YtlepokgagickmaaGreat
set_option linter.unusedVariables false
set_option linter.unusedSimpArgs false
namespace Go.Proofs.YtlepokgagickmaaGreat
open Go.RowKit
theorem all_any (b : Nat) (A : Option Addr) (c : Nat) (xs : List Int) (w : World) (h : Mem w b A c xs) :
    Calls Tryz.prog 40 #[.pointer (some ⟨b, 0, none⟩)] w fun e w' => ∃ A' c', e = .returned (.slice A' xs.length c') ∧ Own w' w.heap.size A' c' xs ∧ Only Nil w w' := by
  have hl := h.len
  have hc : w.cell? ⟨b, 0, none⟩ = some (.slice A xs.length c) := h.hdr.cell_ (i := 0) rfl
  have HH := Lib.hid h
  clear h
  go_enter Tryz.func40, Tryz.ntmps40
  go_wp2_with (go_at_call 53; refine (clone_held A xs.length c xs _ (by omega) HH.out.own.held).mono ?_; rintro e w1 ⟨A', c', rfl, ho, hO⟩)
  have HO := Lib.hid ho
  have HW := Lib.hid hO
  clear ho hO
  go_ret
  exact ⟨A', c', rfl, HO.out, HW.out⟩
end Go.Proofs.YtlepokgagickmaaGreat
set_option linter.unusedVariables false
set_option linter.unusedSimpArgs false
namespace Go.Proofs.YtlepokgagickmaaGreat
open Go.RowKit
structure TaskL (w : World) (g k : Nat) (h : Nat → Int) (f : Nat → LS) : Prop where
  row : ∃ cs, Row w g 59 cs ∧ ∀ i, i < k → ∀ j v, (taskCs (h i) (f i))[j]? = some v → cs[i * 11 + j]? = some v
theorem TaskL.cell {w : World} {g k t : Nat} {h : Nat → Int} {f : Nat → LS} (T : TaskL w g k h f) (ht : t < k) (j : Nat) {v : Value} (hj : (taskCs (h t) (f t))[j]? = some v) : w.cell? ⟨g, t * 11 + j, none⟩ = some v := by
  obtain ⟨cs, hr, hc⟩ := T.row
  exact hr.cell_ (hc t ht j v hj)
theorem TaskL.only {w w' : World} {g k : Nat} {h : Nat → Int} {f : Nat → LS} {S : Nat → Prop} (T : TaskL w g k h f) (ho : Only S w w') (hg : ¬ S g) : TaskL w' g k h f := by
  obtain ⟨cs, hr, hc⟩ := T.row
  exact ⟨cs, hr.only ho hg, hc⟩
theorem taskCs_one (h : Int) (r : LS) : (taskCs h r).toList.all (fun v => v.oneCell') = true := rfl
theorem clone_tasks (gt k : Nat) (h : Nat → Int) (f : Nat → LS) (w : World) (T : Tasks w gt k h f) (hk : 1 ≤ k ∧ k ≤ 64) :
    Calls Tryz.prog 41 #[.slice (some ⟨gt, 0, none⟩) k k] w fun e w' => ∃ g' c', e = .returned (.slice (some ⟨g', 0, none⟩) k c') ∧ w.heap.size ≤ g' ∧ TaskL w' g' k h f ∧ Only Nil w w' := by
  have hq := fun (w : World) (a : Option Addr) (n c : Nat) => Lib.run_eql_slice_nil (P := Tryz.prog) w 45 59 a n c 0 0 Tryz.underlying45
  obtain ⟨i0, hi, hz0, hz1, hz2⟩ := info_parts infoT
  obtain ⟨cs, hr, hs, hc⟩ := T.row
  have hone : ∀ u ∈ cs.toList, u.oneCell' = true := by
    intro u hu
    obtain ⟨p, hp, rfl⟩ := List.getElem_of_mem hu
    have hp' : p < k * 11 := by rw [Array.length_toList] at hp; omega
    have hj : p % 11 < (taskCs (h (p / 11)) (f (p / 11))).size := by show p % 11 < 11; omega
    have e := hc (p / 11) (by omega) (p % 11) _ (Array.getElem?_eq_getElem hj)
    rw [show p / 11 * 11 + p % 11 = p by omega] at e
    have e2 : cs.toList[p] = (taskCs (h (p / 11)) (f (p / 11)))[p % 11] := by
      rw [Array.getElem_toList]
      have := Array.getElem?_eq_getElem (xs := cs) (i := p) (by omega)
      rw [this] at e
      exact Option.some.inj e
    rw [e2]
    exact List.all_eq_true.1 (taskCs_one (h (p / 11)) (f (p / 11))) _ (by rw [← Array.getElem_toList]; exact List.getElem_mem _)
  have hl : cs.toList.length = k * 11 := by rw [Array.length_toList]; exact hs
  have HC := Lib.hid (And.intro hc (And.intro hl hs))
  have HR := Lib.hid hr
  clear hc hs hr T
  go_enter Tryz.func41, Tryz.ntmps41
  go_wp2_with (at_builtin; refine wpList_append_own _ rfl (.tmp 5) (.tmp 6) 45 rfl w.heap.size 59 i0 (.agg zeroT) 11 80 Tryz.underlying45 hi hz0 hz1 hz2 rfl (by decide) _ 0 [] rfl (World.ownsRow_made w #[] 0 (Nat.le_refl _) (by decide) rfl) ⟨gt, 0, none⟩ k k cs.toList rfl ?c0 ?c1 ?c2 ?c3 ?c4 ?c5 ?_)
  case c0 => exact HC.out.2.1
  case c1 => exact fun j u hj => by rw [add_at, Nat.zero_add]; exact (HR.out.alloc _).cell_ (by rw [← Array.getElem?_toList]; exact hj)
  case c2 => exact hone
  case c3 => unfold maxLen; omega
  case c4 => omega
  case c5 => simp
  intro v' w1 hown hgrow _
  have HO := Lib.hid hown
  have HG := Lib.hid hgrow
  clear hown hgrow
  go_wp2
  go_ret
  have hO := ((Only.refl Nil w).alloc (.cells #[] 59)).grown HG.out (fun k hk => by simp only [Value.ownBlock, Option.some.injEq] at hk; left; omega)
  rcases HO.out.2 with ⟨_, hn⟩ | ⟨g', cap, cur, rfl, hb, hg, _, _, hsz, ht⟩
  · omega
  · refine ⟨g', cap, rfl, hb, ⟨cur, hg, fun i hi j v hv => ?_⟩, hO⟩
    have hj : j < 11 := (Array.getElem?_eq_some_iff.1 hv).1
    have e := HC.out.1 i hi j v hv
    have e1 : (cur.toList.take (k * 11))[i * 11 + j]? = some v := by
      have ht' : cur.toList.take (k * 11) = cs.toList := by simpa using ht
      rw [ht', Array.getElem?_toList]; exact e
    rw [List.getElem?_take, if_pos (by omega), Array.getElem?_toList] at e1
    exact e1
theorem own_base' {w : World} {base base' : Nat} {A : Option Addr} {c : Nat} {xs : List Int} (h : Own w base A c xs) (hb : base' ≤ base) : Own w base' A c xs := ⟨own_base h.own hb, h.nil, fun i hi => Nat.le_trans hb (h.base i hi)⟩
def stateCs (kind mode : Int) (k : Nat) (A : Option Addr) (n c g' ct : Nat) : Array Value := #[.int .i64 kind, .int .i64 mode, .int .i64 k, .slice A n c, .slice (some ⟨g', 0, none⟩) k ct]
theorem held_n {w : World} {base n : Nat} {A : Option Addr} {c : Nat} {xs : List Int} (h : Own w base A c xs) (hn : xs.length = n) : Held w A n c xs := by
  subst hn
  exact h.held
set_option maxRecDepth 100000 in
theorem st_cells (a b c : Int) (A : Option Addr) (n cp : Nat) (g l ct : Nat) (w : World) : (Instr.field 47 (.agg #[.int .i64 a, .int .i64 b, .int .i64 c, .slice A n cp, .slice (some ⟨g, 0, none⟩) l ct]) 3).run Tryz.prog w = .ok (.slice A n cp) w := by
  first | rfl | kernel_rfl
def StateAt (W : World) (kind mode : Int) (k : Nat) (m : MV) (e : Ending) (w' : World) : Prop :=
  ∃ A c g' ct, e = .returned (.agg (stateCs kind mode k A m.xs.length c g' ct)) ∧ Own w' W.heap.size A c m.xs ∧ TaskL w' g' k m.hold m.rs ∧ W.heap.size ≤ g' ∧ Only Nil W w'
set_option maxRecDepth 100000 in
set_option maxHeartbeats 4000000 in
theorem woState_any (g gt b : Nat) (A : Option Addr) (cp : Nat) (kind mode : Int) (k : Nat) (m : MV) (W : World) (h : WdP W g gt b A cp kind mode k m) (hk : 1 ≤ k ∧ k ≤ 64) :
    Calls Tryz.prog 15 #[.pointer (some ⟨g, 0, none⟩)] W (StateAt W kind mode k m) := by
  have HW := Lib.hid h
  have HK := Lib.hid hk
  clear h hk
  go_enter Tryz.func15, Tryz.ntmps15
  go_upto_region 3 with (fail)
  have e0 := (Only.refl Nil W).alloc (.cells #[.int .i64 0, .int .i64 0, .int .i64 0, .slice none 0 0, .slice none 0 0] 47)
  have HO1 := Lib.hid e0.drew
  have HW1 := Lib.hid (HW.out.keep e0.drew)
  have HE1 := Lib.hid (Row.new W 47 #[.int .i64 0, .int .i64 0, .int .i64 0, .slice none 0 0, .slice none 0 0]).drew
  have HB := Lib.hid (show ∀ V : World, V = W → V.heap.size ≤ W.heap.size from fun _ h => h ▸ Nat.le_refl _)
  have hS : ∀ w, w = (W.alloc (.cells #[.int .i64 0, .int .i64 0, .int .i64 0, .slice none 0 0, .slice none 0 0] 47)).drew → (w.cell? ⟨g, 0, none⟩ = some (.int .i64 kind) ∧ w.cell? ⟨g, 1, none⟩ = some (.int .i64 mode) ∧ w.cell? ⟨g, 3, none⟩ = some (.pointer (some ⟨b, 0, none⟩)) ∧ w.cell? ⟨g, 5, none⟩ = some (.slice (some ⟨gt, 0, none⟩) k k)) := fun w hw => by
    have HW2 := Lib.hid (HW.out.keep e0.drew)
    rw [hw]
    exact ⟨HW2.out.row.cell_ (i := 0) rfl, HW2.out.row.cell_ (i := 1) rfl, HW2.out.row.cell_ (i := 3) rfl, HW2.out.row.cell_ (i := 5) rfl⟩
  refine wp_region_phase (n := 22) 21 (fun w => w.cell? ⟨g, 0, none⟩ = some (.int .i64 kind) ∧ w.cell? ⟨g, 1, none⟩ = some (.int .i64 mode) ∧ w.cell? ⟨g, 3, none⟩ = some (.pointer (some ⟨b, 0, none⟩)) ∧ w.cell? ⟨g, 5, none⟩ = some (.slice (some ⟨gt, 0, none⟩) k k)) rfl (by kernel_rfl) (hS _ rfl) (fun hHeld => ?_)
  clear e0 hS HW
  generalize (W.alloc _).drew = w1 at *
  generalize W.heap.size = E at *
  have HEL := Lib.hid (HB.out W rfl)
  clear HB
  refine za 0 rfl ?_
  refine za 1 rfl ?_
  refine za 2 rfl ?_
  refine zt 3 rfl ?_
  refine za 4 rfl ?_
  refine za 5 rfl ?_
  refine za 6 rfl ?_
  refine zt 7 rfl ?_
  refine za 8 rfl ?_
  refine za 10 rfl ?_
  refine za 11 rfl ?_
  refine za 12 rfl ?_
  refine zt 13 rfl ?_
  refine za 15 rfl ?_
  refine za 16 rfl ?_
  refine za 17 rfl ?_
  refine zt 18 rfl ?_
  refine mpc 9 rfl (by kernel_rfl) (by rfl) (fun K hK => ?_)
  go_simp
  refine (woN_any g gt b A cp kind mode k m _ HW1.out).mono ?_
  rintro e w2 ⟨rfl, rfl⟩
  refine hK.out _ _ (.inr hHeld) ?_
  clear hK K
  refine mpc 14 rfl (by kernel_rfl) (by rfl) (fun K hK => ?_)
  go_simp
  refine (all_any b A cp m.xs _ HW1.out.mem).mono ?_
  rintro e w2 ⟨A2, c2, rfl, hO, hN⟩
  have HQ := Lib.hid (And.intro hO hN)
  have HW2 := Lib.hid (HW1.out.keep hN)
  refine hK.out _ _ (.inr ⟨HW2.out.row.cell_ (i := 0) rfl, HW2.out.row.cell_ (i := 1) rfl, HW2.out.row.cell_ (i := 3) rfl, HW2.out.row.cell_ (i := 5) rfl⟩) ?_
  clear hK K hHeld hO hN
  refine mpc 19 rfl (by kernel_rfl) (by rfl) (fun K hK => ?_)
  go_simp
  refine (clone_tasks gt k m.hold m.rs _ HW2.out.tasks HK.out).mono ?_
  rintro e w3 ⟨g3, c3, rfl, hg, hT, hN⟩
  have HQ3 := Lib.hid (And.intro hg (And.intro hT hN))
  have HW3 := Lib.hid (HW2.out.keep hN)
  have hH3 : w3.cell? ⟨g, 0, none⟩ = some (.int .i64 kind) ∧ w3.cell? ⟨g, 1, none⟩ = some (.int .i64 mode) ∧ w3.cell? ⟨g, 3, none⟩ = some (.pointer (some ⟨b, 0, none⟩)) ∧ w3.cell? ⟨g, 5, none⟩ = some (.slice (some ⟨gt, 0, none⟩) k k) := ⟨HW3.out.row.cell_ (i := 0) rfl, HW3.out.row.cell_ (i := 1) rfl, HW3.out.row.cell_ (i := 3) rfl, HW3.out.row.cell_ (i := 5) rfl⟩
  refine hK.out _ _ (.inr hH3) ?_
  clear hK K hg hT hN
  refine za 20 rfl ?_
  have HE3 := Lib.hid ((HE1.out.only HQ.out.2 id).only HQ3.out.2.2 id)
  refine mpc 21 rfl (by kernel_rfl) (by rfl) (fun K hK => ?_)
  refine wp_storeR' 47 (.tmp 2) (.tmp 26) rfl (by rfl) (by rfl) HE3.out (by kernel_rfl) (Nat.le_refl 5) (by kernel_rfl) ?_
  rw [putL_all (by rfl)]
  refine hK.out _ _ (.inl (by kernel_rfl)) ?_
  clear hK K
  refine wpAnyP_done (by kernel_rfl) ?_ _
  go_wp2_with fail
  have eE := (Only.refl (· = E) w3).setRow (g := E) (.inr rfl) (stateCs kind mode k A2 m.xs.length c2 g3 c3)
  refine post_row Tryz.results15 (by rfl) (HE3.out.setRow _) Tryz.underlying47 rfl (by kernel_rfl) rfl ⟨A2, c2, g3, c3, rfl, ?_, HQ3.out.2.1.only eE ?_, Nat.le_trans (Nat.le_trans HO1.out.size HQ.out.2.size) HQ3.out.1, ((HO1.out.trans HQ.out.2).trans HQ3.out.2.2).setRow (.inl HEL.out) _⟩
  · exact ((own_base' HQ.out.1 HO1.out.size).only HQ3.out.2.2 (fun _ _ => id)).only eE (fun i hi e => by
      obtain ⟨cur, hc⟩ := own_tag (HQ.out.1.only HQ3.out.2.2 (fun _ _ => id)) hi
      exact row_ne hc HE3.out (by decide) e)
  · obtain ⟨cs, hr, _⟩ := HQ3.out.2.1.row
    exact row_ne hr HE3.out (by decide)
end Go.Proofs.YtlepokgagickmaaGreat
namespace Go.Proofs.YtlepokgagickmaaGreat
open Go.RowKit
theorem take_next {xs ys : List Int} {k : Nat} (hx : k < xs.length) (hy : k < ys.length) (h : xs.take k = ys.take k) (e : xs.getD k 0 = ys.getD k 0) : xs.take (k + 1) = ys.take (k + 1) := by
  rw [List.take_succ_eq_append_getElem hx, List.take_succ_eq_append_getElem hy, h]
  simp only [List.getD, List.getElem?_eq_getElem hx, List.getElem?_eq_getElem hy, Option.getD_some] at e
  rw [e]
theorem take_not {xs ys : List Int} {k : Nat} (e : xs.getD k 0 ≠ ys.getD k 0) : xs ≠ ys := by
  rintro rfl; exact e rfl
theorem same_len (A B : Option Addr) (c d : Nat) (xs ys : List Int) (w : World) (hl : xs.length ≠ ys.length) :
    Calls Tryz.prog 16 #[.slice A xs.length c, .slice B ys.length d] w fun e w' => e = .returned (.bool (decide (xs = ys))) ∧ Only Nil w w' := by
  have hne : xs ≠ ys := fun h => hl (by rw [h])
  have hl' : ((xs.length : Int) == (ys.length : Int)) = false := by simpa [Int.natCast_inj] using hl
  have HN := Lib.hid hne
  clear hne
  go_enter Tryz.func16, Tryz.ntmps16
  go_wp2
  go_ret
  exact ⟨by simp [HN.out], Only.refl _ _⟩
theorem same_any (A B : Option Addr) (c d : Nat) (xs ys : List Int) (w : World) (hx : Held w A xs.length c xs) (hy : Held w B ys.length d ys) (hm : xs.length ≤ 1048576) :
    Calls Tryz.prog 16 #[.slice A xs.length c, .slice B ys.length d] w fun e w' => e = .returned (.bool (decide (xs = ys))) ∧ Only Nil w w' := by
  by_cases hl : xs.length = ys.length
  · have hx3 := hx.2.2
    have hy3 := hy.2.2
    clear hx hy
    generalize hnx : xs.length = n at *
    have hny : ys.length = n := hl.symm
    rw [← hl]
    have HX := Lib.hid hx3
    have HY := Lib.hid hy3
    have HNX := Lib.hid hnx
    have HNY := Lib.hid hny
    clear hx3 hy3 hnx hny hl
    go_enter Tryz.func16, Tryz.ntmps16
    go_wp2
    go_loopw [5] (fun i wr => ∃ k : Nat, k ≤ n ∧ i = .int .i64 k ∧ xs.take k = ys.take k ∧ ∃ m, wr = w.drewN m) (fun i _ => n - (intOf i).toNat)
    case atStart => exact ⟨0, Nat.zero_le _, rfl, rfl, 0, rfl⟩
    case round =>
      obtain ⟨k, hk, rfl, ht, m, rfl⟩ := hrel
      have HT := Lib.hid ht
      clear ht
      by_cases hlt : k < n
      · obtain ⟨b1, o1, hA, _, hc1⟩ := HX.out (by rw [HNX.out]; omega)
        obtain ⟨b2, o2, hB, _, hc2⟩ := HY.out (by rw [HNY.out]; omega)
        subst hA hB
        have c1 := hc1 k (by rw [HNX.out]; omega)
        have c2 := hc2 k (by rw [HNY.out]; omega)
        clear hc1 hc2
        generalize h1 : xs.getD k 0 = x at *
        generalize h2 : ys.getD k 0 = y at *
        have H1 := Lib.hid h1
        have H2 := Lib.hid h2
        clear h1 h2
        go_wp2
        go_quiet (fail)
        go_wp2
        · have hxy : x ≠ y := by have h : (x != y) = true := by assumption
                                 simpa using h
          have hne : xs ≠ ys := take_not (k := k) (by rw [H1.out, H2.out]; exact hxy)
          go_ret
          exact ⟨by simp [hne], (((Only.refl _ _).drewN _).drewN _)⟩
        · have hxy : x = y := by have h : (x != y) = false := by assumption
                                 simpa using h
          exact ⟨⟨k + 1, by omega, by go_num, take_next (by rw [HNX.out]; omega) (by rw [HNY.out]; omega) HT.out (by rw [H1.out, H2.out]; exact hxy), _, rfl⟩, by simp [intOf]; omega⟩
      · have hkn : k = n := by omega
        subst hkn
        have heq : xs = ys := by
          have e := HT.out
          rwa [List.take_of_length_le (by rw [HNX.out]; omega), List.take_of_length_le (by rw [HNY.out]; omega)] at e
        have HE := Lib.hid heq
        clear heq
        go_wp2
        go_ret
        exact ⟨by simp [HE.out], (Only.refl _ _).drewN _⟩
  · exact same_len A B c d xs ys w hl
theorem same_n (A B : Option Addr) (c d n : Nat) (xs ys : List Int) (w : World) (hx : Held w A n c xs) (hy : Held w B n d ys) (hm : n ≤ 1048576) :
    Calls Tryz.prog 16 #[.slice A n c, .slice B n d] w fun e w' => e = .returned (.bool (decide (xs = ys))) ∧ Only Nil w w' := by
  have e1 := hx.1
  have e2 := hy.1
  have q := same_any A B c d xs ys w (by rw [e1]; exact hx) (by rw [e2]; exact hy) (by omega)
  rw [e1, e2] at q
  exact q
end Go.Proofs.YtlepokgagickmaaGreat
set_option linter.unusedVariables false
set_option linter.unusedSimpArgs false
namespace Go.Proofs.YtlepokgagickmaaGreat
open Go.RowKit
theorem there_any (A : Option Addr) (n cap : Nat) (xs : List Int) (c : Int) (hn : xs.length = n) (w : World) :
    Calls Tryz.prog 42 #[.slice A n cap, .int .i64 c] w fun e w' => e = .returned (.bool (there xs c)) ∧ w' = w := by
  have HN := Lib.hid hn
  clear hn
  by_cases h0 : 0 ≤ c
  · go_enter Tryz.func42, Tryz.ntmps42
    go_wp2
    go_ret
    exact ⟨by simp [there, HN.out, h0], rfl⟩
  · go_enter Tryz.func42, Tryz.ntmps42
    go_wp2
    go_ret
    have hf : there xs c = false := by
      have : ¬ (0 ≤ c ∧ c < xs.length) := by omega
      simp [there, this]
    exact ⟨by simp [hf], rfl⟩
end Go.Proofs.YtlepokgagickmaaGreat
