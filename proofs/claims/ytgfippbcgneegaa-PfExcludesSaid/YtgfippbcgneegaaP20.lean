import Derived.Deep.OwnRows
import Derived.Laws.BitsAllLaws
import Derived.Laws.BitsLemmas
import Derived.Test.YtgfippbcgneegaaP19
import Derived.Test.YtgfippbcgneegaaP1
import Derived.Test.YtgfippbcgneegaaP2
import Derived.Test.YtgfippbcgneegaaP11
import Derived.Test.YtgfippbcgneegaaP12
namespace Go.Proofs.Ytgfippbcgneegaa
open Go.RowKit
def wordI (k : Int) (c : Nat) (b : Int) : Int :=
  if k = 1 ∧ c ≤ 2 then b else if k = 2 ∧ c ≤ 1 then b * 256 % 4294967296 else if k = 2 ∧ c ≤ 4 then b else if k = 3 ∧ c ≤ 1 then b * 256 % 4294967296 else if k = 3 ∧ c = 3 then b
  else if k = 6 ∧ c = 0 then b % 256 * 256 + b % 256 * 65536 else 0
theorem low8 {x : Int} (hx : 0 ≤ x ∧ x < 4294967296) : bits .and .u32 x 255 = x % 256 := by
  have := bits_mask .u32 32 (by decide) (fun k h0 h1 => by rw [IntKind.wrap_u32']; omega) 8 (by omega) x hx.1 (by simpa using hx.2)
  simpa using this
theorem both8 {b : Int} (hb : 0 ≤ b ∧ b < 4294967296) :
    bits BinOp.or IntKind.u32 (bits BinOp.and IntKind.u32 b 255 * 256 % 4294967296) (bits BinOp.and IntKind.u32 b 255 * 65536 % 4294967296) = b % 256 * 256 + b % 256 * 65536 := by
  rw [low8 hb]
  obtain ⟨X, hX⟩ := Int.eq_ofNat_of_zero_le (show 0 ≤ b % 256 by omega)
  have hX' : X < 256 := by omega
  rw [hX, show (X : Int) * 256 % 4294967296 = ((X * 256 : Nat) : Int) by omega, show (X : Int) * 65536 % 4294967296 = ((X * 65536 : Nat) : Int) by omega,
    u32_or_nat _ _ (by omega) (by omega), Nat.or_comm, nat_join 16 _ _ (by omega) (by omega)]
  omega
theorem firstWord_one (k : Int) (c : Nat) (s : ByteArray) (b : Int) (w : World) (hk : 1 ≤ k ∧ k ≤ 6) (hs : (ownV k)[c]? = some (.string s)) (hb : 0 ≤ b ∧ b < 4294967296) :
    Calls Try.prog 24 #[.int .i64 k, .string s, .int .u32 b] w fun e w' => e = .returned (.int .u32 (wordI k c b)) ∧ w = w' := by
  obtain ⟨b1, b2⟩ := hb
  rcases kinds hk with rfl | rfl | rfl | rfl | rfl | rfl
  · clear hk
    have hc : c < 3 := (Array.getElem?_eq_some_iff.1 hs).1
    rcases (show c = 0 ∨ c = 1 ∨ c = 2 by omega) with rfl | rfl | rfl
    all_goals
      injection (Option.some.inj hs) with hs
      subst hs
      go_enter Try.func24, Try.ntmps24
      go_wp2
      go_ret
      first | exact ⟨rfl, rfl⟩ | (refine ⟨ret_int ?_, rfl⟩; simp [wordI]; done) | (refine ⟨ret_int ?_, rfl⟩; simp [wordI]; exact both8 ⟨b1, b2⟩)
  · clear hk
    have hc : c < 5 := (Array.getElem?_eq_some_iff.1 hs).1
    rcases (show c = 0 ∨ c = 1 ∨ c = 2 ∨ c = 3 ∨ c = 4 by omega) with rfl | rfl | rfl | rfl | rfl
    all_goals
      injection (Option.some.inj hs) with hs
      subst hs
      go_enter Try.func24, Try.ntmps24
      go_wp2
      go_ret
      first | exact ⟨rfl, rfl⟩ | (refine ⟨ret_int ?_, rfl⟩; simp [wordI]; done) | (refine ⟨ret_int ?_, rfl⟩; simp [wordI]; exact both8 ⟨b1, b2⟩)
  · clear hk
    have hc : c < 4 := (Array.getElem?_eq_some_iff.1 hs).1
    rcases (show c = 0 ∨ c = 1 ∨ c = 2 ∨ c = 3 by omega) with rfl | rfl | rfl | rfl
    all_goals
      injection (Option.some.inj hs) with hs
      subst hs
      go_enter Try.func24, Try.ntmps24
      go_wp2
      go_ret
      first | exact ⟨rfl, rfl⟩ | (refine ⟨ret_int ?_, rfl⟩; simp [wordI]; done) | (refine ⟨ret_int ?_, rfl⟩; simp [wordI]; exact both8 ⟨b1, b2⟩)
  · clear hk
    have hc : c < 2 := (Array.getElem?_eq_some_iff.1 hs).1
    rcases (show c = 0 ∨ c = 1 by omega) with rfl | rfl
    all_goals
      injection (Option.some.inj hs) with hs
      subst hs
      go_enter Try.func24, Try.ntmps24
      go_wp2
      go_ret
      first | exact ⟨rfl, rfl⟩ | (refine ⟨ret_int ?_, rfl⟩; simp [wordI]; done) | (refine ⟨ret_int ?_, rfl⟩; simp [wordI]; exact both8 ⟨b1, b2⟩)
  · clear hk
    have hc : c < 1 := (Array.getElem?_eq_some_iff.1 hs).1
    rcases (show c = 0 by omega) with rfl
    all_goals
      injection (Option.some.inj hs) with hs
      subst hs
      go_enter Try.func24, Try.ntmps24
      go_wp2
      go_ret
      first | exact ⟨rfl, rfl⟩ | (refine ⟨ret_int ?_, rfl⟩; simp [wordI]; done) | (refine ⟨ret_int ?_, rfl⟩; simp [wordI]; exact both8 ⟨b1, b2⟩)
  · clear hk
    have hc : c < 1 := (Array.getElem?_eq_some_iff.1 hs).1
    rcases (show c = 0 by omega) with rfl
    all_goals
      injection (Option.some.inj hs) with hs
      subst hs
      go_enter Try.func24, Try.ntmps24
      go_wp2
      go_ret
      first | exact ⟨rfl, rfl⟩ | (refine ⟨ret_int ?_, rfl⟩; simp [wordI]; done) | (refine ⟨ret_int ?_, rfl⟩; simp [wordI]; exact both8 ⟨b1, b2⟩)
-- FIRST
theorem infoF : (Try.prog.info? 22).map (fun i => (i.zero, i.size, i.bytes)) = some (some (.int .u32 0), 1, 4) := by kernel_rfl
def words (k : Int) (S c : Nat) (b : Int) : List Int := (List.range S).map fun j => if j < c then wordI k j b else 0
def cellsOf (l : List Int) : Array Value := (l.map (Value.int .u32)).toArray
theorem words_zero (k : Int) (S : Nat) (b : Int) : words k S 0 b = List.replicate S 0 := by
  apply List.ext_getElem
  · simp [words]
  · intro i h1 h2; simp [words]
theorem words_at (k : Int) (S c : Nat) (b : Int) (h : c < S) : (cellsOf (words k S c b))[c]? = some (.int .u32 0) := by
  simp [cellsOf, words, h]
theorem words_next (k : Int) (S c : Nat) (b : Int) : (cellsOf (words k S c b)).setIfInBounds c (.int .u32 (wordI k c b)) = cellsOf (words k S (c + 1) b) := by
  apply Array.ext_getElem?
  intro i
  rw [Array.getElem?_setIfInBounds]
  by_cases hi : c = i
  · subst hi
    by_cases hS : c < S
    · simp [cellsOf, words, hS]
    · simp [cellsOf, words, hS]
  · simp only [hi, if_false]
    simp only [cellsOf, words, List.getElem?_toArray, List.getElem?_map]
    rcases Nat.lt_or_ge i S with h | h
    · rw [List.getElem?_range h]
      simp only [Option.map_some]
      by_cases h2 : i < c
      · rw [if_pos h2, if_pos (by omega)]
      · rw [if_neg h2, if_neg (by omega)]
    · rw [List.getElem?_eq_none (by simpa using h)]
      rfl
theorem made_is (k : Int) (S : Nat) (b : Int) : madeCells #[.int .u32 0] S = cellsOf (words k S 0 b) := by
  apply Array.ext'
  rw [toList_madeCells_one, words_zero]
  simp [cellsOf]
def FirstAt (k b : Int) (S : Nat) (w : World) (e : Ending) (w' : World) : Prop :=
  ∃ g, e = .returned (.tuple #[.slice (some ⟨g, 0, none⟩) S S, .int .i64 0]) ∧ w.heap.size ≤ g ∧ Row w' g 22 (cellsOf (words k S (ownV k).size b)) ∧ Only Nil w w'
set_option maxHeartbeats 1000000 in
theorem first_yes (k n b : Int) (S : Nat) (w : World) (hk : 1 ≤ k ∧ k ≤ 6) (hn : 1 ≤ n ∧ n ≤ 64) (hS : sizeI n = S) (hb : 0 ≤ b ∧ b < 4294967296) :
    Calls Try.prog 8 #[.int .i64 k, .int .i64 n, .int .u32 b] w (FirstAt k b S w) := by
  have hz : sizeI n = 8 + 4 * n := if_pos hn
  have s1 : 12 ≤ S := by omega
  have s2 : S ≤ 300 := by omega
  have HS := Lib.hid hS
  have HB := Lib.hid hb
  have HK := Lib.hid hk
  have HN := Lib.hid hn
  clear hz hS hb hk hn
  have hmk := fun W => run_make_row' (P := Try.prog) 25 22 (.int .u32 0) 4 Try.underlying25 infoF rfl .i64 .i64 S (by omega) (by omega) W
  have qT : ∀ (w : World) (a : Option Addr) (n c n' c' : Nat), (binOp .eql 72 (.slice a n c) (.slice none n' c')).run Try.prog w = .ok (.bool a.isNone) w := fun w a n c n' c' => Lib.run_eql_slice_nil w _ _ a n c n' c' Try.underlying72
  go_enter Try.func8, Try.ntmps8
  go_wp2_with fail
  refine (ownNames_yes k _ HK.out).mono ?_
  intro e w1 hF
  obtain ⟨gn, rfl, hgn, hR, hO⟩ := hF
  have HL := Lib.hid (own_size k HK.out)
  have HA := Lib.hid (name_at k HK.out)
  have HWX := Lib.hid (firstWord_one k)
  generalize hLe : (ownV k).size = L at *
  have HLE := Lib.hid hLe
  have HR1 := Lib.hid hR
  have HO1 := Lib.hid hO
  have HG := Lib.hid hgn
  clear hLe hR hO hgn
  go_wp2_with fail
  refine (new_yes n _ HN.out).mono ?_
  rintro e w2 ⟨rfl, hO⟩
  have HO2 := Lib.hid ((HO1.out.trans hO).alloc (.cells #[.int .i64 n] 57))
  have HR2 := Lib.hid ((HR1.out.only hO id).alloc (.cells #[.int .i64 n] 57))
  clear hO
  go_wp2_with fail
  refine (size_any n _).mono ?_
  rw [HS.out]
  rintro e w3 ⟨rfl, hO⟩
  have HO3 := Lib.hid (HO2.out.trans hO)
  have HR3 := Lib.hid (HR2.out.only hO id)
  clear hO
  go_wp2
  have HM : Hid (Row (w3.alloc (.cells (madeCells #[.int .u32 0] S) 22)) w3.heap.size 22 (cellsOf (words k S 0 b))) := Lib.hid (by rw [← made_is]; exact Row.new _ _ _)
  have HO4 := Lib.hid (HO3.out.alloc (.cells (madeCells #[.int .u32 0] S) 22))
  have HR4 := Lib.hid (HR3.out.alloc (.cells (madeCells #[.int .u32 0] S) 22))
  have l1 := HL.out.1
  have l2 := HL.out.2
  have HZ := Lib.hid (show w.heap.size ≤ w3.heap.size ∧ gn < w3.heap.size from ⟨HO3.out.size, HR3.out.lt⟩)
  generalize w3.heap.size = gw at *
  clear hmk qT
  go_loopw [31] (fun i wr => ∃ c : Nat, c ≤ L ∧ i = .int .i64 c ∧ Row wr gw 22 (cellsOf (words k S c b)) ∧ Row wr gn 9 (ownV k) ∧ Only Nil w wr) (fun i _ => L - (intOf i).toNat)
  case atStart => exact ⟨0, Nat.zero_le _, rfl, HM.out, HR4.out, HO4.out⟩
  case round =>
    obtain ⟨c, hc, rfl, hrw, hrn, hor⟩ := hrel
    have HRW := Lib.hid hrw
    have HRN := Lib.hid hrn
    have HOR := Lib.hid hor
    clear hrw hrn hor
    by_cases hlt : c < L
    · obtain ⟨s, hs⟩ := HA.out c hlt
      have hcs : c < S := by omega
      have c0 := HRN.out.cell_ hs
      have c1 := HRW.out.cell_ (words_at k S c b hcs)
      have f1 := HRW.out.frozen c
      have HSS := Lib.hid hs
      clear hs
      go_wp2_with fail
      refine (HWX.out c s b _ HK.out HSS.out HB.out).mono ?_
      rintro e w' ⟨rfl, rfl⟩
      generalize hwd : wordI k c b = wd
      have HWD := Lib.hid hwd
      clear hwd
      go_wp2
      have hfin := HRW.out.set c (.int .u32 wd)
      rw [← HWD.out, words_next] at hfin
      refine ⟨⟨c + 1, by omega, by go_num, by rw [← HWD.out]; exact hfin, HRN.out.far (by have := HZ.out.2; simp; omega) _, HOR.out.setCell (p := ⟨gw, c, none⟩) (.inl HZ.out.1) _⟩, by simp [intOf]; omega⟩
    · have hkn : c = L := by omega
      have HC := Lib.hid hkn
      clear hkn
      go_wp2
      go_ret2
      refine ⟨gw, rfl, HZ.out.1, ?_, HOR.out⟩
      rw [HLE.out, ← HC.out]
      exact HRW.out
-- REF
end Go.Proofs.Ytgfippbcgneegaa
set_option linter.unusedVariables false
set_option linter.unusedSimpArgs false
namespace Go.Proofs.Ytgfippbcgneegaa
open Go.RowKit
theorem Row.ints {w : World} {g : Nat} {t : TypeId} {k : IntKind} {xs : List Int} (h : Row w g t ((xs.map (Value.int k)).toArray)) : Ints w w.heap.size k (some ⟨g, 0, none⟩) xs := fun _ => by
  refine ⟨g, 0, rfl, h.lt, fun i hi => ?_⟩
  rw [Nat.zero_add]
  refine h.cell_ ?_
  simp [List.getD, List.getElem?_eq_getElem hi]
end Go.Proofs.Ytgfippbcgneegaa
set_option linter.unusedVariables false
set_option linter.unusedSimpArgs false
namespace Go.Proofs.Ytgfippbcgneegaa
open Go.RowKit
def mkR (k : Nat) (mode task op line a b : Int) (kk : WkV) (ret : Int) (os : List Int) (acc : Acc5) (ns : List Nt) : LS := ⟨k, mode, task, op, line, a, b, 0, kk, ret, acc, ns, clean os k⟩
def Nx (L : LS → LS) (r : LS) (k : Nat) (mode task op line a b : Int) (kk : WkV) (ret : Int) (os : List Int) : Prop := ∃ acc ns, r.next L = mkR k mode task op line a b kk ret os acc ns
section
variable {chk : LS → Bool} {L : LS → LS} {r : LS} {k m : Nat} {mode task op line a b c ret : Int} {os : List Int}
theorem Nx.mk {kk : WkV} {r' : LS} (h : r.next L = r') (he : r'.fresh = mkR k mode task op line a b kk ret os acc0 []) : Nx L r k mode task op line a b kk ret os := by
  refine ⟨r'.acc, r'.ns, h.trans ?_⟩
  have e : r' = { r'.fresh with acc := r'.acc, ns := r'.ns } := rfl
  rw [e, he]
  rfl
theorem Nx.on (hk0 : Chk chk) (h0 : r.s = 0) (h : Nx L r k mode task op line a b wk0 0 os) : ∃ acc ns, aloneG chk L (m + 1) r = aloneG chk L m (mkR k mode task op line a b wk0 0 os acc ns) := by
  obtain ⟨acc, ns, e⟩ := h
  exact ⟨acc, ns, by rw [alone_on hk0 h0 (by rw [e]; rfl), e]⟩
theorem Nx.done (hk0 : Chk chk) (h0 : r.s = 0) (ho : os.length = 8) (hk : 1 ≤ k ∧ k ≤ 64) (hc : 0 ≤ c ∧ c < 8) (h : Nx L r k mode task op line a b (beginI mode c) ret os) (hr : ret ≠ 0) (hm : k < m) : aloneG chk L m r = (ret, clean os k) := by
  obtain ⟨acc, ns, e⟩ := h
  exact alone_done hk0 ho hk hc e rfl rfl rfl hr h0 rfl hm
end
end Go.Proofs.Ytgfippbcgneegaa
set_option linter.unusedVariables false
set_option linter.unusedSimpArgs false
namespace Go.Proofs.Ytgfippbcgneegaa
open Go.RowKit
end Go.Proofs.Ytgfippbcgneegaa
set_option linter.unusedVariables false
set_option linter.unusedSimpArgs false
namespace Go.Proofs.Ytgfippbcgneegaa
open Go.RowKit
def os5 (i o n t ph : Int) : List Int := [i, o, n, t, ph, 0, 0, 0]
def ad (x v : Int) : Int := (x + v) % 4294967296
section
variable {k : Nat} {mode task op line a b i o n t ph x : Int} {acc : Acc5} {ns : List Nt}
variable {chk : LS → Bool} (hk0 : Chk chk) (hk : 1 ≤ k ∧ k ≤ 64) {m : Nat} (hm : 2 * k + 16 ≤ m)
include hk0 hk hm
end
end Go.Proofs.Ytgfippbcgneegaa
set_option linter.unusedVariables false
set_option linter.unusedSimpArgs false
namespace Go.Proofs.Ytgfippbcgneegaa
open Go.RowKit
structure T5 where
  i : Int
  o : Int
  n : Int
  t : Int
  ph : Int
def T5.xs (s : T5) (k : Nat) : List Int := clean (os5 s.i s.o s.n s.t s.ph) k
def opP (op : Int) (s : T5) : T5 :=
  if op = 1 ∨ op = 5 then ⟨ad 256 s.i, s.o, s.n, s.t, s.ph⟩ else if op = 2 then ⟨s.i, ad 256 s.o, s.n, s.t, s.ph⟩ else if op = 3 ∨ op = 6 then ⟨ad (presI s.ph) s.i, s.o, ad 1 s.n, s.t, s.ph⟩
  else if op = 4 then ⟨ad ((0 - presI s.ph) % 4294967296) s.i, s.o, s.n, ad 1 s.t, (s.ph + 1) % 4294967296⟩ else if op = 7 then ⟨ad (presI s.ph) s.i, ad 256 s.o, ad 1 s.n, s.t, s.ph⟩
  else ⟨ad ((256 - presI s.ph) % 4294967296) s.i, s.o, s.n, ad 1 s.t, (s.ph + 1) % 4294967296⟩
structure T5.Ok (s : T5) : Prop where
  i : 0 ≤ s.i ∧ s.i < 4294967296
  o : 0 ≤ s.o ∧ s.o < 4294967296
  n : 0 ≤ s.n ∧ s.n < 4294967296
  t : 0 ≤ s.t ∧ s.t < 4294967296
  ph : 0 ≤ s.ph ∧ s.ph < 4294967296
theorem ad_bd (x v : Int) : 0 ≤ ad x v ∧ ad x v < 4294967296 := by unfold ad; omega
theorem md_bd (x : Int) : 0 ≤ x % 4294967296 ∧ x % 4294967296 < 4294967296 := by omega
theorem T5.Ok.op {s : T5} (h : s.Ok) (op : Int) : (opP op s).Ok := by
  obtain ⟨h1, h2, h3, h4, h5⟩ := h
  unfold opP
  repeat' split
  all_goals exact ⟨by first | assumption | exact ad_bd _ _, by first | assumption | exact ad_bd _ _, by first | assumption | exact ad_bd _ _, by first | assumption | exact ad_bd _ _, by first | assumption | exact md_bd _⟩
theorem T5.Ok.words {s : T5} {k : Nat} (h : s.Ok) : Words (s.xs k) := by
  obtain ⟨hi, ho, hn, ht, hp⟩ := h
  intro x hx
  unfold T5.xs clean os5 at hx
  simp only [List.mem_append, List.mem_cons, List.not_mem_nil, or_false, List.mem_replicate] at hx
  rcases hx with (rfl | rfl | rfl | rfl | rfl | rfl | rfl | rfl) | ⟨_, rfl⟩
  all_goals first | exact wf_mk hi.1 hi.2 | exact wf_mk ho.1 ho.2 | exact wf_mk hn.1 hn.2 | exact wf_mk ht.1 ht.2 | exact wf_mk hp.1 hp.2 | rfl
def T5.at (b : Int) : T5 := ⟨b * 256 % 4294967296, b * 256 % 4294967296, b, b, b⟩
theorem at_ok {b : Int} (hb : 0 ≤ b ∧ b < 4294967296) : (T5.at b).Ok := ⟨md_bd _, md_bd _, hb, hb, hb⟩
end Go.Proofs.Ytgfippbcgneegaa
