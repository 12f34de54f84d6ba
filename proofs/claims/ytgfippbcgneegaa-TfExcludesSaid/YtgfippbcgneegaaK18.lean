import Derived.Deep.OwnRows
import Derived.Laws.BitsAllLaws
import Derived.Laws.BitsLemmas
import Derived.Laws.AppendOwnNone
import Derived.Test.YtgfippbcgneegaaK17
import Derived.Test.YtgfippbcgneegaaK1
import Derived.Test.YtgfippbcgneegaaK2
import Derived.Test.YtgfippbcgneegaaK11
import Derived.Test.YtgfippbcgneegaaK16
namespace Go.Proofs.Ytgfippbcgneegaa
open Go.RowKit
def wordI (k : Int) (c : Nat) (b : Int) : Int :=
  if k = 1 ∧ c ≤ 2 then b else if k = 2 ∧ c ≤ 1 then b * 256 % 4294967296 else if k = 2 ∧ c ≤ 4 then b else if k = 3 ∧ c ≤ 1 then b * 256 % 4294967296 else if k = 3 ∧ c = 3 then b
  else if k = 6 ∧ c = 0 then b % 256 * 256 + b % 256 * 65536 else 0
theorem low8 {x : Int} (hx : 0 ≤ x ∧ x < 4294967296) : bits .and .u32 x 255 = x % 256 := by
  have := bits_mask .u32 32 (by decide) (fun k h0 h1 => by rw [IntKind.wrap_u32']; omega) 8 (by omega) x hx.1 (by simpa using hx.2)
  simpa using this
theorem both8 {b : Int} (hb : 0 ≤ b ∧ b < 4294967296) :
    bits BinOp.or IntKind.u32 (bits BinOp.and IntKind.u32 b 255 * 256 % 4294967296) (bits BinOp.and IntKind.u32 b 255 * 65536 % 4294967296) = b % 256 * 256 + b % 256 * 65536 := by
  rw [low8 hb]
  obtain ⟨X, hX⟩ := Int.eq_ofNat_of_zero_le (show 0 ≤ b % 256 by omega)
  have hX' : X < 256 := by omega
  rw [hX, show (X : Int) * 256 % 4294967296 = ((X * 256 : Nat) : Int) by omega, show (X : Int) * 65536 % 4294967296 = ((X * 65536 : Nat) : Int) by omega,
    u32_or_nat _ _ (by omega) (by omega), Nat.or_comm, nat_join 16 _ _ (by omega) (by omega)]
  omega
theorem firstWord_one (k : Int) (c : Nat) (s : ByteArray) (b : Int) (w : World) (hk : 1 ≤ k ∧ k ≤ 6) (hs : (ownV k)[c]? = some (.string s)) (hb : 0 ≤ b ∧ b < 4294967296) :
    Calls Try.prog 24 #[.int .i64 k, .string s, .int .u32 b] w fun e w' => e = .returned (.int .u32 (wordI k c b)) ∧ w = w' := by
  obtain ⟨b1, b2⟩ := hb
  rcases kinds hk with rfl | rfl | rfl | rfl | rfl | rfl
  · clear hk
    have hc : c < 3 := (Array.getElem?_eq_some_iff.1 hs).1
    rcases (show c = 0 ∨ c = 1 ∨ c = 2 by omega) with rfl | rfl | rfl
    all_goals
      injection (Option.some.inj hs) with hs
      subst hs
      go_enter Try.func24, Try.ntmps24
      go_wp2
      go_ret
      first | exact ⟨rfl, rfl⟩ | (refine ⟨ret_int ?_, rfl⟩; simp [wordI]; done) | (refine ⟨ret_int ?_, rfl⟩; simp [wordI]; exact both8 ⟨b1, b2⟩)
  · clear hk
    have hc : c < 5 := (Array.getElem?_eq_some_iff.1 hs).1
    rcases (show c = 0 ∨ c = 1 ∨ c = 2 ∨ c = 3 ∨ c = 4 by omega) with rfl | rfl | rfl | rfl | rfl
    all_goals
      injection (Option.some.inj hs) with hs
      subst hs
      go_enter Try.func24, Try.ntmps24
      go_wp2
      go_ret
      first | exact ⟨rfl, rfl⟩ | (refine ⟨ret_int ?_, rfl⟩; simp [wordI]; done) | (refine ⟨ret_int ?_, rfl⟩; simp [wordI]; exact both8 ⟨b1, b2⟩)
  · clear hk
    have hc : c < 4 := (Array.getElem?_eq_some_iff.1 hs).1
    rcases (show c = 0 ∨ c = 1 ∨ c = 2 ∨ c = 3 by omega) with rfl | rfl | rfl | rfl
    all_goals
      injection (Option.some.inj hs) with hs
      subst hs
      go_enter Try.func24, Try.ntmps24
      go_wp2
      go_ret
      first | exact ⟨rfl, rfl⟩ | (refine ⟨ret_int ?_, rfl⟩; simp [wordI]; done) | (refine ⟨ret_int ?_, rfl⟩; simp [wordI]; exact both8 ⟨b1, b2⟩)
  · clear hk
    have hc : c < 2 := (Array.getElem?_eq_some_iff.1 hs).1
    rcases (show c = 0 ∨ c = 1 by omega) with rfl | rfl
    all_goals
      injection (Option.some.inj hs) with hs
      subst hs
      go_enter Try.func24, Try.ntmps24
      go_wp2
      go_ret
      first | exact ⟨rfl, rfl⟩ | (refine ⟨ret_int ?_, rfl⟩; simp [wordI]; done) | (refine ⟨ret_int ?_, rfl⟩; simp [wordI]; exact both8 ⟨b1, b2⟩)
  · clear hk
    have hc : c < 1 := (Array.getElem?_eq_some_iff.1 hs).1
    rcases (show c = 0 by omega) with rfl
    all_goals
      injection (Option.some.inj hs) with hs
      subst hs
      go_enter Try.func24, Try.ntmps24
      go_wp2
      go_ret
      first | exact ⟨rfl, rfl⟩ | (refine ⟨ret_int ?_, rfl⟩; simp [wordI]; done) | (refine ⟨ret_int ?_, rfl⟩; simp [wordI]; exact both8 ⟨b1, b2⟩)
  · clear hk
    have hc : c < 1 := (Array.getElem?_eq_some_iff.1 hs).1
    rcases (show c = 0 by omega) with rfl
    all_goals
      injection (Option.some.inj hs) with hs
      subst hs
      go_enter Try.func24, Try.ntmps24
      go_wp2
      go_ret
      first | exact ⟨rfl, rfl⟩ | (refine ⟨ret_int ?_, rfl⟩; simp [wordI]; done) | (refine ⟨ret_int ?_, rfl⟩; simp [wordI]; exact both8 ⟨b1, b2⟩)
-- FIRST
theorem infoF : (Try.prog.info? 22).map (fun i => (i.zero, i.size, i.bytes)) = some (some (.int .u32 0), 1, 4) := by kernel_rfl
def words (k : Int) (S c : Nat) (b : Int) : List Int := (List.range S).map fun j => if j < c then wordI k j b else 0
def cellsOf (l : List Int) : Array Value := (l.map (Value.int .u32)).toArray
theorem words_zero (k : Int) (S : Nat) (b : Int) : words k S 0 b = List.replicate S 0 := by
  apply List.ext_getElem
  · simp [words]
  · intro i h1 h2; simp [words]
theorem words_at (k : Int) (S c : Nat) (b : Int) (h : c < S) : (cellsOf (words k S c b))[c]? = some (.int .u32 0) := by
  simp [cellsOf, words, h]
theorem words_next (k : Int) (S c : Nat) (b : Int) : (cellsOf (words k S c b)).setIfInBounds c (.int .u32 (wordI k c b)) = cellsOf (words k S (c + 1) b) := by
  apply Array.ext_getElem?
  intro i
  rw [Array.getElem?_setIfInBounds]
  by_cases hi : c = i
  · subst hi
    by_cases hS : c < S
    · simp [cellsOf, words, hS]
    · simp [cellsOf, words, hS]
  · simp only [hi, if_false]
    simp only [cellsOf, words, List.getElem?_toArray, List.getElem?_map]
    rcases Nat.lt_or_ge i S with h | h
    · rw [List.getElem?_range h]
      simp only [Option.map_some]
      by_cases h2 : i < c
      · rw [if_pos h2, if_pos (by omega)]
      · rw [if_neg h2, if_neg (by omega)]
    · rw [List.getElem?_eq_none (by simpa using h)]
      rfl
theorem made_is (k : Int) (S : Nat) (b : Int) : madeCells #[.int .u32 0] S = cellsOf (words k S 0 b) := by
  apply Array.ext'
  rw [toList_madeCells_one, words_zero]
  simp [cellsOf]
def FirstAt (k b : Int) (S : Nat) (w : World) (e : Ending) (w' : World) : Prop :=
  ∃ g, e = .returned (.tuple #[.slice (some ⟨g, 0, none⟩) S S, .int .i64 0]) ∧ w.heap.size ≤ g ∧ Row w' g 22 (cellsOf (words k S (ownV k).size b)) ∧ Only Nil w w'
set_option maxHeartbeats 1000000 in
theorem first_yes (k n b : Int) (S : Nat) (w : World) (hk : 1 ≤ k ∧ k ≤ 6) (hn : 1 ≤ n ∧ n ≤ 64) (hS : sizeI n = S) (hb : 0 ≤ b ∧ b < 4294967296) :
    Calls Try.prog 8 #[.int .i64 k, .int .i64 n, .int .u32 b] w (FirstAt k b S w) := by
  have hz : sizeI n = 8 + 4 * n := if_pos hn
  have s1 : 12 ≤ S := by omega
  have s2 : S ≤ 300 := by omega
  have HS := Lib.hid hS
  have HB := Lib.hid hb
  have HK := Lib.hid hk
  have HN := Lib.hid hn
  clear hz hS hb hk hn
  have hmk := fun W => run_make_row' (P := Try.prog) 25 22 (.int .u32 0) 4 Try.underlying25 infoF rfl .i64 .i64 S (by omega) (by omega) W
  have qT : ∀ (w : World) (a : Option Addr) (n c n' c' : Nat), (binOp .eql 72 (.slice a n c) (.slice none n' c')).run Try.prog w = .ok (.bool a.isNone) w := fun w a n c n' c' => Lib.run_eql_slice_nil w _ _ a n c n' c' Try.underlying72
  go_enter Try.func8, Try.ntmps8
  go_wp2_with fail
  refine (ownNames_yes k _ HK.out).mono ?_
  intro e w1 hF
  obtain ⟨gn, rfl, hgn, hR, hO⟩ := hF
  have HL := Lib.hid (own_size k HK.out)
  have HA := Lib.hid (name_at k HK.out)
  have HWX := Lib.hid (firstWord_one k)
  generalize hLe : (ownV k).size = L at *
  have HLE := Lib.hid hLe
  have HR1 := Lib.hid hR
  have HO1 := Lib.hid hO
  have HG := Lib.hid hgn
  clear hLe hR hO hgn
  go_wp2_with fail
  refine (new_yes n _ HN.out).mono ?_
  rintro e w2 ⟨rfl, hO⟩
  have HO2 := Lib.hid ((HO1.out.trans hO).alloc (.cells #[.int .i64 n] 57))
  have HR2 := Lib.hid ((HR1.out.only hO id).alloc (.cells #[.int .i64 n] 57))
  clear hO
  go_wp2_with fail
  refine (size_any n _).mono ?_
  rw [HS.out]
  rintro e w3 ⟨rfl, hO⟩
  have HO3 := Lib.hid (HO2.out.trans hO)
  have HR3 := Lib.hid (HR2.out.only hO id)
  clear hO
  go_wp2
  have HM : Hid (Row (w3.alloc (.cells (madeCells #[.int .u32 0] S) 22)) w3.heap.size 22 (cellsOf (words k S 0 b))) := Lib.hid (by rw [← made_is]; exact Row.new _ _ _)
  have HO4 := Lib.hid (HO3.out.alloc (.cells (madeCells #[.int .u32 0] S) 22))
  have HR4 := Lib.hid (HR3.out.alloc (.cells (madeCells #[.int .u32 0] S) 22))
  have l1 := HL.out.1
  have l2 := HL.out.2
  have HZ := Lib.hid (show w.heap.size ≤ w3.heap.size ∧ gn < w3.heap.size from ⟨HO3.out.size, HR3.out.lt⟩)
  generalize w3.heap.size = gw at *
  clear hmk qT
  go_loopw [31] (fun i wr => ∃ c : Nat, c ≤ L ∧ i = .int .i64 c ∧ Row wr gw 22 (cellsOf (words k S c b)) ∧ Row wr gn 9 (ownV k) ∧ Only Nil w wr) (fun i _ => L - (intOf i).toNat)
  case atStart => exact ⟨0, Nat.zero_le _, rfl, HM.out, HR4.out, HO4.out⟩
  case round =>
    obtain ⟨c, hc, rfl, hrw, hrn, hor⟩ := hrel
    have HRW := Lib.hid hrw
    have HRN := Lib.hid hrn
    have HOR := Lib.hid hor
    clear hrw hrn hor
    by_cases hlt : c < L
    · obtain ⟨s, hs⟩ := HA.out c hlt
      have hcs : c < S := by omega
      have c0 := HRN.out.cell_ hs
      have c1 := HRW.out.cell_ (words_at k S c b hcs)
      have f1 := HRW.out.frozen c
      have HSS := Lib.hid hs
      clear hs
      go_wp2_with fail
      refine (HWX.out c s b _ HK.out HSS.out HB.out).mono ?_
      rintro e w' ⟨rfl, rfl⟩
      generalize hwd : wordI k c b = wd
      have HWD := Lib.hid hwd
      clear hwd
      go_wp2
      have hfin := HRW.out.set c (.int .u32 wd)
      rw [← HWD.out, words_next] at hfin
      refine ⟨⟨c + 1, by omega, by go_num, by rw [← HWD.out]; exact hfin, HRN.out.far (by have := HZ.out.2; simp; omega) _, HOR.out.setCell (p := ⟨gw, c, none⟩) (.inl HZ.out.1) _⟩, by simp [intOf]; omega⟩
    · have hkn : c = L := by omega
      have HC := Lib.hid hkn
      clear hkn
      go_wp2
      go_ret2
      refine ⟨gw, rfl, HZ.out.1, ?_, HOR.out⟩
      rw [HLE.out, ← HC.out]
      exact HRW.out
-- REF
end Go.Proofs.Ytgfippbcgneegaa
set_option linter.unusedVariables false
set_option linter.unusedSimpArgs false
namespace Go.Proofs.Ytgfippbcgneegaa
open Go.RowKit
theorem Row.ints {w : World} {g : Nat} {t : TypeId} {k : IntKind} {xs : List Int} (h : Row w g t ((xs.map (Value.int k)).toArray)) : Ints w w.heap.size k (some ⟨g, 0, none⟩) xs := fun _ => by
  refine ⟨g, 0, rfl, h.lt, fun i hi => ?_⟩
  rw [Nat.zero_add]
  refine h.cell_ ?_
  simp [List.getD, List.getElem?_eq_getElem hi]
end Go.Proofs.Ytgfippbcgneegaa
set_option linter.unusedVariables false
set_option linter.unusedSimpArgs false
namespace Go.Proofs.Ytgfippbcgneegaa
open Go.RowKit
def mkR (k : Nat) (mode task op line a b : Int) (kk : WkV) (ret : Int) (os : List Int) (acc : Acc5) (ns : List Nt) : LS := ⟨k, mode, task, op, line, a, b, 0, kk, ret, acc, ns, clean os k⟩
def Nx (L : LS → LS) (r : LS) (k : Nat) (mode task op line a b : Int) (kk : WkV) (ret : Int) (os : List Int) : Prop := ∃ acc ns, r.next L = mkR k mode task op line a b kk ret os acc ns
section
variable {chk : LS → Bool} {L : LS → LS} {r : LS} {k m : Nat} {mode task op line a b c ret : Int} {os : List Int}
theorem Nx.mk {kk : WkV} {r' : LS} (h : r.next L = r') (he : r'.fresh = mkR k mode task op line a b kk ret os acc0 []) : Nx L r k mode task op line a b kk ret os := by
  refine ⟨r'.acc, r'.ns, h.trans ?_⟩
  have e : r' = { r'.fresh with acc := r'.acc, ns := r'.ns } := rfl
  rw [e, he]
  rfl
theorem Nx.on (hk0 : Chk chk) (h0 : r.s = 0) (h : Nx L r k mode task op line a b wk0 0 os) : ∃ acc ns, aloneG chk L (m + 1) r = aloneG chk L m (mkR k mode task op line a b wk0 0 os acc ns) := by
  obtain ⟨acc, ns, e⟩ := h
  exact ⟨acc, ns, by rw [alone_on hk0 h0 (by rw [e]; rfl), e]⟩
theorem Nx.done (hk0 : Chk chk) (h0 : r.s = 0) (ho : os.length = 8) (hk : 1 ≤ k ∧ k ≤ 64) (hc : 0 ≤ c ∧ c < 8) (h : Nx L r k mode task op line a b (beginI mode c) ret os) (hr : ret ≠ 0) (hm : k < m) : aloneG chk L m r = (ret, clean os k) := by
  obtain ⟨acc, ns, e⟩ := h
  exact alone_done hk0 ho hk hc e rfl rfl rfl hr h0 rfl hm
end
end Go.Proofs.Ytgfippbcgneegaa
set_option linter.unusedVariables false
set_option linter.unusedSimpArgs false
namespace Go.Proofs.Ytgfippbcgneegaa
open Go.RowKit
end Go.Proofs.Ytgfippbcgneegaa
set_option linter.unusedVariables false
set_option linter.unusedSimpArgs false
namespace Go.Proofs.Ytgfippbcgneegaa
open Go.RowKit
def os3 (u r w : Int) : List Int := [u, r, w, 0, 0, 0, 0, 0]
def up (u : Int) : Int := (1 + u) % 4294967296
section
variable {k : Nat} {mode task op line a b u r w : Int} {acc : Acc5} {ns : List Nt}
variable {chk : LS → Bool} (hk0 : Chk chk) (hk : 1 ≤ k ∧ k ≤ 64) {m : Nat} (hm : 2 * k + 8 ≤ m)
include hk0 hk hm
end
end Go.Proofs.Ytgfippbcgneegaa
set_option linter.unusedVariables false
set_option linter.unusedSimpArgs false
namespace Go.Proofs.Ytgfippbcgneegaa
open Go.RowKit
structure T3 where
  u : Int
  r : Int
  w : Int
def T3.xs (s : T3) (k : Nat) : List Int := clean (os3 s.u s.r s.w) k
theorem T3.words {s : T3} {k : Nat} (hu : 0 ≤ s.u ∧ s.u < 4294967296) (hr : 0 ≤ s.r ∧ s.r < 4294967296) (hw : 0 ≤ s.w ∧ s.w < 4294967296) : Words (s.xs k) := by
  intro n hn
  unfold T3.xs clean os3 at hn
  simp only [List.mem_append, List.mem_cons, List.not_mem_nil, or_false, List.mem_replicate] at hn
  rcases hn with (rfl | rfl | rfl | rfl | rfl | rfl | rfl | rfl) | ⟨_, rfl⟩
  all_goals first | exact wf_mk hu.1 hu.2 | exact wf_mk hr.1 hr.2 | exact wf_mk hw.1 hw.2 | rfl
end Go.Proofs.Ytgfippbcgneegaa
set_option linter.unusedVariables false
set_option linter.unusedSimpArgs false
namespace Go.Proofs.Ytgfippbcgneegaa
open Go.RowKit
def FirstW (xs : List Int) (S : Nat) (w : World) (e : Ending) (w' : World) : Prop :=
  ∃ g, e = .returned (.tuple #[.slice (some ⟨g, 0, none⟩) S S, .int .i64 0]) ∧ w.heap.size ≤ g ∧ Held w' (some ⟨g, 0, none⟩) S S xs ∧ Only Nil w w'
end Go.Proofs.Ytgfippbcgneegaa
set_option linter.unusedVariables false
set_option linter.unusedSimpArgs false
namespace Go.Proofs.Ytgfippbcgneegaa
open Go.RowKit
theorem words_tf (k : Nat) (b : Int) : words 1 (8 + 4 * k) 3 b = (⟨b, b, b⟩ : T3).xs k := by
  show words 1 (8 + 4 * k) 3 b = os3 b b b ++ List.replicate (4 * k) 0
  apply List.ext_getElem
  · simp [words, os3]
    omega
  · intro i h1 h2
    by_cases hi : i < 8
    · rw [List.getElem_append_left (by simpa [os3] using hi)]
      match i, hi with
      | 0, _ => simp [words, wordI, os3]
      | 1, _ => simp [words, wordI, os3]
      | 2, _ => simp [words, wordI, os3]
      | 3, _ => simp [words, wordI, os3]
      | 4, _ => simp [words, wordI, os3]
      | 5, _ => simp [words, wordI, os3]
      | 6, _ => simp [words, wordI, os3]
      | 7, _ => simp [words, wordI, os3]
    · rw [List.getElem_append_right (by simpa [os3] using hi)]
      simp only [List.getElem_replicate]
      simp [words, wordI]
      omega
theorem first_tf (k : Nat) (b : Int) (w : World) (hk : 1 ≤ k ∧ k ≤ 64) (hb : 0 ≤ b ∧ b < 4294967296) :
    Calls Try.prog 8 #[.int .i64 1, .int .i64 k, .int .u32 b] w (FirstW ((⟨b, b, b⟩ : T3).xs k) (8 + 4 * k) w) := by
  have hS : sizeI (k : Int) = ((8 + 4 * k : Nat) : Int) := by unfold sizeI; rw [if_pos (by omega)]; push_cast; rfl
  refine (first_yes 1 k b (8 + 4 * k) w (by omega) (by omega) hS hb).mono ?_
  rintro e w' ⟨g, rfl, hg, hR, hO⟩
  rw [show (ownV 1).size = 3 from rfl, words_tf] at hR
  have hI := Row.ints (k := .u32) (xs := (⟨b, b, b⟩ : T3).xs k) hR
  exact ⟨g, rfl, hg, ⟨by simp [T3.xs, clean, os3]; omega, (by intro h; cases h), hI⟩, hO⟩
end Go.Proofs.Ytgfippbcgneegaa
set_option linter.unusedVariables false
set_option linter.unusedSimpArgs false
namespace Go.Proofs.Ytgfippbcgneegaa
open Go.RowKit
theorem flat_cells : ∀ (zs : List Nt) (u : Value), u ∈ flat zs → u.oneCell' = true
  | [], u, h => by simp [flat] at h
  | n :: r, u, h => by
    rw [flat, List.mem_append] at h
    rcases h with h | h
    · unfold flat1 at h
      simp only [List.mem_cons, List.not_mem_nil, or_false] at h
      rcases h with rfl | rfl | rfl | rfl <;> rfl
    · exact flat_cells r u h
theorem wp_appNs {w : World} {ops : Array Oper} {rest : List Oper} {o : Oper} {a : Act} {Q : Exit → Act → World → Prop} (hgd : o.guard = none) (s x : Operand)
    (ho : o.op = .call { callee := .builtin .append, args := #[s, x], argTypes := #[32, 32] })
    (base : Nat) (v : Value) (zs : List Nt) (hs : a.eval s = v) (hown : OwnN base w v zs)
    (u : Value) (ys : List Nt) (hx : a.eval x = u) (hu : OwnN 0 w u ys)
    (h1 : zs.length ≤ 4000) (h2 : ys.length ≤ 1000) (hbase : base ≤ w.heap.size)
    (h : ∀ v' w', OwnN base w' v' (zs ++ ys) → Only (fun k => v.ownBlock = some k) w w' → wpList Try.prog ops Q rest (a.put o.dst v') w') : wpList Try.prog ops Q (o :: rest) a w := by
  obtain ⟨i0, hi, hz0, hz1, hz2⟩ := info_parts infoN
  rcases hu.2 with ⟨rfl, hn⟩ | ⟨g, cap, cur, rfl, _, hg, hc, hm, hsz, ht⟩
  · obtain rfl := List.eq_nil_of_length_eq_zero hn
    refine wpList_append_own_none hgd s x 32 ho base 130 i0 4 Try.underlying32 hi v zs.length (flat zs) hs hown hx ?_
    exact h v w (by rw [List.append_nil]; exact hown) (Only.refl _ _)
  · refine wpList_append_own w hgd s x 32 ho base 130 i0 (.agg #[.int .i64 0, .int .i64 0, .int .i64 0, .int .i64 0]) 4 32 Try.underlying32 hi hz0 hz1 hz2 rfl (by decide) v zs.length (flat zs) hs hown ⟨g, 0, none⟩ ys.length cap (flat ys) hx (flat_len ys) (fun j u hj => World.ownsRow.cells hu (g := g) rfl j u hj) (fun u hu => flat_cells ys u hu) (by unfold maxLen; omega) (by omega) hbase (fun v' w' hO hG _ => ?_)
    refine h v' w' ?_ ((Only.refl _ w).grown hG (fun k hk => .inr hk))
    have e : (zs ++ ys).length = zs.length + ys.length := List.length_append
    unfold OwnN
    rw [e, flat_app]
    exact hO
end Go.Proofs.Ytgfippbcgneegaa
set_option linter.unusedVariables false
set_option linter.unusedSimpArgs false
namespace Go.Proofs.Ytgfippbcgneegaa
open Go.RowKit
structure AloneI (w0 : World) (B : Nat) (p A : Option Addr) (cp : Nat) (r0 : LS) (most j : Nat) (v : Value) (wr : World) : Prop where
  run : ∃ nv r, RunQ wr B p A cp nv r ∧ Words r.xs ∧ aloneL LS.tf most r0 = aloneL LS.tf (most - j) r
  notes : ∃ zs, OwnN w0.heap.size wr v zs ∧ zs.length ≤ 2 * j
  only : Only (At A) w0 wr
  new : w0.heap.size ≤ B
  old : ∀ j, At p j ∨ At A j → j < w0.heap.size
def AloneP (p A : Option Addr) (cp : Nat) (w : World) (t : Int × List Int) (e : Ending) (w' : World) : Prop := ∃ nv, e = .returned (.tuple #[.int .i64 t.1, nv]) ∧ Only (At A) w w' ∧ Memo w' p A cp t.2 ∧ Words t.2
theorem ownN_form {base : Nat} {w : World} {v : Value} {zs : List Nt} (h : OwnN base w v zs) : ∃ A n c, v = .slice A n c := by
  rcases h.2 with ⟨rfl, _⟩ | ⟨g, cap, cur, rfl, _⟩
  · exact ⟨none, 0, 0, rfl⟩
  · exact ⟨_, _, _, rfl⟩
set_option maxRecDepth 100000 in
set_option maxHeartbeats 2000000 in
theorem alone_any (p A : Option Addr) (cp : Nat) (k mode op : Int) (most : Nat) (xs : List Int) (w : World) (h : Memo w p A cp xs) (hx : Words xs) (hmost : most ≤ 1000) :
    Calls Try.prog 33 #[.pointer p, .int .i64 k, .int .i64 mode, .int .i64 op, .int .i64 most] w (AloneP p A cp w (aloneL LS.tf most (newR k mode 0 op xs))) := by
  have e0 := (Only.refl Nil w).alloc (.cells ((newR k mode 0 op xs).cells (.pointer p) (.slice none 0 0)) 61)
  have HI0 : Hid (AloneI w w.heap.size p A cp (newR k mode 0 op xs) most 0 (.slice none 0 0) (w.alloc (.cells ((newR k mode 0 op xs).cells (.pointer p) (.slice none 0 0)) 61))) :=
    Lib.hid ⟨⟨_, _, ⟨Row.new w _ _, h.keep e0⟩, hx, rfl⟩, ⟨[], ownN_nil _ _, Nat.zero_le _⟩, e0.mono (fun _ _ h => h.elim), Nat.le_refl _, h.lt⟩
  rw [show (newR k mode 0 op xs).cells (.pointer p) (.slice none 0 0) = newCells p k mode 0 op from rfl] at HI0
  unfold newCells at HI0
  clear e0 h hx
  generalize hr0 : newR k mode 0 op xs = r0 at *
  clear hr0
  go_enter Try.func33, Try.ntmps33
  go_upto_region 2 with (fail)
  generalize w.alloc (.cells #[.pointer p, .int .i64 k, .int .i64 mode, .int .i64 0, .int .i64 op, .int .i64 0, .int .u32 0, .int .u32 0, .int .i64 0, .bool false, .int .i64 0, .int .i64 0, .bool false, .int .i64 0, .int .i64 0, .int .i64 0, .int .u32 0, .int .u32 0, .int .u32 0, .slice none 0 0] 61) = w1 at *
  generalize hB : w.heap.size = B at *
  have HB := Lib.hid hB
  clear hB
  go_wp2_with fail
  go_loopw [13, 14] (fun nv i wr => ∃ j : Nat, j ≤ most ∧ i = .int .i64 j ∧ AloneI w B p A cp r0 most j nv wr) (fun _ i _ => most - (intOf i).toNat)
  case atStart => exact ⟨0, Nat.zero_le _, rfl, HI0.out⟩
  case round =>
    obtain ⟨j, hj, rfl, hI⟩ := hrel
    clear HI0
    obtain ⟨nvr, r, hQ, hW, hA⟩ := hI.run
    have HI := Lib.hid hI
    have HQ := Lib.hid hQ
    have HW := Lib.hid hW
    have HA := Lib.hid hA
    clear hI hQ hW hA
    by_cases hlt : j < most
    · go_wp2_with fail
      refine (tf_step B p A cp nvr r _ HQ.out HW.out).mono ?_
      obtain ⟨hg, hn2⟩ := good_next (L := LS.tf) (fun r => good_tf) r
      have HG := Lib.hid hg
      have HN2 := Lib.hid hn2
      clear hg hn2
      rintro e w2 ⟨rfl, hO, _, nv2, hP⟩
      have HO := Lib.hid hO
      have HP := Lib.hid hP
      clear hO hP
      obtain ⟨zs, hzs, hzl⟩ := HI.out.notes
      have HZ := Lib.hid (show OwnN w.heap.size w2 _ zs from own_only hzs HO.out (fun i hi e => by
        obtain ⟨cur, hc⟩ := ownN_tag hzs hi
        rcases e with e | e
        · exact row_ne hc HQ.out.row (by decide) e
        · exact memo_not HQ.out.memo hc (by decide) (by decide) (.inr e)))
      have HZL := Lib.hid hzl
      clear hzs hzl
      have HSTEP : Hid (aloneL LS.tf most r0 = if (r.next LS.tf).over then ((r.next LS.tf).ret, (r.next LS.tf).xs) else aloneL LS.tf (most - (j + 1)) (r.next LS.tf)) := Lib.hid (by
        rw [HA.out, show most - j = (most - (j + 1)) + 1 by omega]
        rfl)
      generalize r.next LS.tf = r2 at *
      have c19 : w2.cell? ⟨B, 19, none⟩ = some nv2 := HP.out.row.cell_ (i := 19) rfl
      have hbase : w.heap.size ≤ w2.heap.size := Nat.le_trans HI.out.only.size HO.out.size
      have HBA := Lib.hid hbase
      clear hbase
      go_wp2_with (at_builtin; refine wp_appNs rfl (.tmp 31) (.tmp 35) rfl w.heap.size _ _ (by rfl) HZ.out nv2 r2.ns (by rfl) HP.out.notes (by have := HZL.out; omega) (by have := HN2.out; omega) HBA.out ?_)
      intro v' w3 hown hO3
      clear c19
      have HRQ : Hid (RunQ w3 B p A cp nv2 r2) := Lib.hid ⟨HP.out.row.only hO3 (fun e => by
          obtain ⟨cur, hc⟩ := ownN_tag HZ.out e
          exact absurd (HP.out.row.same hc).1 (by decide)), HP.out.memo.far hO3 (fun j hj e => by
          obtain ⟨cur, hc⟩ := ownN_tag HZ.out e
          exact memo_not HP.out.memo hc (by decide) (by decide) hj)⟩
      have HO3 : Hid (Only (At A) w w3) := Lib.hid ((HI.out.only.step HO.out (fun i hi e => by
          rcases e with e | e
          · have := HI.out.new; omega
          · exact e)).step hO3 (fun i hi e => by
          have := (World.ownsRow.lt HZ.out i e).1
          omega))
      have HOW := Lib.hid hown
      obtain ⟨A9, n9, c9, rfl⟩ := ownN_form hown
      clear hown hO3
      have HNW := Lib.hid (HG.out.words HW.out)
      cases hov : r2.over
      · have HSTEP2 := Lib.hid (HSTEP.out.trans (by rw [hov, if_neg Bool.false_ne_true]))
        clear hov
        go_wp2
        go_roundw
        case rel => exact ⟨j + 1, by omega, by go_num, ⟨⟨nv2, r2, HRQ.out, HNW.out, HSTEP2.out⟩, ⟨_, HOW.out, by rw [List.length_append]; have := HZL.out; have := HN2.out; omega⟩, HO3.out, HI.out.new, HI.out.old⟩⟩
        case measure => simp [intOf]; omega
      · have HSTEP2 := Lib.hid (HSTEP.out.trans (by rw [hov, if_pos rfl]))
        clear hov
        have c13 : w3.cell? ⟨B, 13, none⟩ = some (.int .i64 r2.ret) := HRQ.out.row.cell_ (i := 13) rfl
        go_wp2
        go_ret2
        rw [HSTEP2.out]
        exact ⟨_, rfl, HO3.out, HRQ.out.memo, HNW.out⟩
    · obtain rfl : j = most := by omega
      have HE := Lib.hid (show aloneL LS.tf j r0 = (0, r.xs) by rw [HA.out, Nat.sub_self]; rfl)
      go_wp2
      go_ret2
      rw [HE.out]
      exact ⟨_, rfl, HI.out.only, HQ.out.memo, HW.out⟩
end Go.Proofs.Ytgfippbcgneegaa
set_option linter.unusedVariables false
set_option linter.unusedSimpArgs false
namespace Go.Proofs.Ytgfippbcgneegaa
open Go.RowKit
def Fresh (w : World) (xs : List Int) (e : Ending) (w' : World) : Prop := ∃ b A' c', e = .returned (.tuple #[.pointer (some ⟨b, 0, none⟩), .int .i64 0]) ∧ w.heap.size ≤ b ∧ (∀ i, At A' i → w.heap.size ≤ i) ∧ Mem w' b A' c' xs ∧ Only Nil w w'
theorem from_ok (A : Option Addr) (n cap : Nat) (xs : List Int) (w : World) (hm : n ≤ 1024) (h : Held w A n cap xs) :
    Calls Try.prog 9 #[.slice A n cap] w (Fresh w xs) := by
  have hl := h.1
  have hm' : (n : Int) ≤ 1024 := by omega
  have HH := Lib.hid h
  have HL := Lib.hid hl
  clear h hl
  go_enter Try.func9, Try.ntmps9
  go_wp2_with (go_at_call 25; refine (clone_held A n cap xs _ (by omega) HH.out).mono ?_; rintro e w1 ⟨A', c', rfl, ho, hO⟩)
  have HO := Lib.hid ho
  have HW := Lib.hid hO
  clear ho hO
  go_ret2
  refine ⟨w1.heap.size, A', c', rfl, HW.out.size, HO.out.base, ⟨Row.new w1 _ _, ?_, ?_⟩, HW.out.alloc _⟩
  · exact ⟨own_base (own_only HO.out.own ((Only.refl Nil w1).alloc _) (fun _ _ h => h)) (Nat.zero_le _), HO.out.nil, fun _ _ => Nat.zero_le _⟩
  · rw [HL.out]; exact hm
end Go.Proofs.Ytgfippbcgneegaa
set_option linter.unusedVariables false
set_option linter.unusedSimpArgs false
namespace Go.Proofs.Ytgfippbcgneegaa
open Go.RowKit
structure Made (w0 : World) (b : Nat) (A : Option Addr) (cp : Nat) (xs : List Int) (W : World) : Prop where
  mem : Mem W b A cp xs
  new : ∀ j, At A j → w0.heap.size ≤ j
  only : Only Nil w0 W
theorem Made.call {w0 W W' : World} {b : Nat} {A : Option Addr} {cp : Nat} {xs ys : List Int} (h : Made w0 b A cp xs W) (ho : Only (At A) W W') (hm : Mem W' b A cp ys) : Made w0 b A cp ys W' :=
  ⟨hm, h.new, h.only.step ho (fun i hi e => by have := h.new i e; omega)⟩
end Go.Proofs.Ytgfippbcgneegaa
set_option linter.unusedVariables false
set_option linter.unusedSimpArgs false
namespace Go.Proofs.Ytgfippbcgneegaa
open Go.RowKit
theorem load_raw (b : Nat) (A : Option Addr) (cp : Nat) (xs : List Int) (c : Int) (w : World) (h : Mem w b A cp xs) :
    Calls Try.prog 11 #[.pointer (some ⟨b, 0, none⟩), .int .i64 c] w fun e w' => e = .returned (.int .u32 (wordAt xs c)) ∧ Only (At A) w w' ∧ Mem w' b A cp (doNew xs 1 c 0 0) := by
  have HH := Lib.hid h
  clear h
  go_enter Try.func11, Try.ntmps11
  go_wp2_with fail
  refine (do_any b A cp xs 1 c 0 0 0 _ HH.out).mono ?_
  obtain ⟨k', c', x', y', hv⟩ := doVal_form xs 1 c 0 0
  rw [oldAt xs 1 c rfl] at hv
  rintro e w1 ⟨rfl, hO, hM⟩
  rw [hv]
  have HO := Lib.hid hO
  have HM := Lib.hid hM
  clear hO hM hv
  go_wp2
  go_ret
  exact ⟨rfl, HO.out.alloc _, HM.out.only ((Only.refl Nil w1).alloc _) id (fun _ _ => id)⟩
theorem load_any (b : Nat) (A : Option Addr) (cp : Nat) (xs : List Int) (c : Int) (w : World) (h : Mem w b A cp xs) :
    Calls Try.prog 11 #[.pointer (some ⟨b, 0, none⟩), .int .i64 c] w fun e w' => e = .returned (.int .u32 (wordAt xs c)) ∧ Only (At A) w w' ∧ Mem w' b A cp xs :=
  (load_raw b A cp xs c w h).mono fun _ _ ⟨h1, h2, h3⟩ => ⟨h1, h2, by rw [doNew_load] at h3; exact h3⟩
end Go.Proofs.Ytgfippbcgneegaa
