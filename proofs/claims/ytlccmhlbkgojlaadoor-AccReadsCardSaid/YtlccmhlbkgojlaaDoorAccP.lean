/- Accesses read from texts: the small functions of acc.Parse. -/
import Derived.Test.YtlccmhlbkgojlaaDoorParU
import Derived.Test.YtlccmhlbkgojlaaDoorSplit
import Derived.Test.YtlccmhlbkgojlaaDoorStrEq
import Derived.Test.YtlccmhlbkgojlaaDoorLaid
import Derived.Test.YtlccmhlbkgojlaaDoorParts
import Derived.Test.YtlccmhlbkgojlaaDoorNum
namespace Go.Proofs.YtlccmhlbkgojlaaDoor
open Go.RowKit

theorem LiesP.errS {w : World} (h : LiesP w) : Errs w 3 := by
  obtain ⟨tp, p, hv⟩ := h.syn
  have g : Tryd.prog.globalNamed "strconv.ErrSyntax" = some 3 := by kernel_rfl
  exact ⟨_, by have := World.var?_cell g hv 0; simpa using this, .inr ⟨tp, p, rfl⟩⟩
theorem LiesP.errR {w : World} (h : LiesP w) : Errs w 4 := by
  obtain ⟨tp, p, hv⟩ := h.rng
  have g : Tryd.prog.globalNamed "strconv.ErrRange" = some 4 := by kernel_rfl
  exact ⟨_, by have := World.var?_cell g hv 0; simpa using this, .inr ⟨tp, p, rfl⟩⟩

/-- Some word; that of the eight digits. -/
def UnhexRes (l : Bs) (w : World) (e : Ending) (w' : World) : Prop := ∃ v : Int, e = .returned (.int .u32 v) ∧ Only Nil w w' ∧ 0 ≤ v ∧ v < 4294967296 ∧ ∀ x : Int, 0 ≤ x → x < 4294967296 → l = hex8 x → v = x
theorem unhex_any (s : ByteArray) (w : World) (hs : s.size ≤ 900) (h : LiesP w) : Calls Tryd.prog 38 #[.string s] w (UnhexRes s.data.toList w) := by
  have HP := Lib.hid (parseUint_any s (by omega) w h.errS h.errR)
  clear h
  go_enter Tryd.func38, Tryd.ntmps38
  go_wp2_with fail
  refine HP.out.mono ?_
  rintro e w1 ⟨⟨v, er, hv, rfl, hx⟩, hO⟩
  have HO := Lib.hid hO
  have HX := Lib.hid hx
  clear hO hx
  have hv' : (v : Int) < 4294967296 := by omega
  go_wp2
  go_ret
  exact ⟨v, rfl, HO.out, by omega, hv', HX.out⟩

theorem atoi_any (s : ByteArray) (w : World) (hs : s.size ≤ 900) (h : LiesP w) : Calls Tryd.prog 37 #[.string s] w (AtoiRes s.data.toList w) := atoi_gen s w hs h.syn h.rng

theorem kindOf_any (s : ByteArray) (w : World) (h : Lies w) : Calls Tryd.prog 36 #[.string s] w fun e w' => e = .returned (.int .i64 (kindL s.data.toList)) ∧ w = w' := by
  have h0 := h.words 0 (by decide)
  have h1 := h.words 1 (by decide)
  have h2 := h.words 2 (by decide)
  have h3 := h.words 3 (by decide)
  have h4 := h.words 4 (by decide)
  have h5 := h.words 5 (by decide)
  have hE : ∀ k : Int, ((bs (wordL k)).toList == s.toList) = decide (wordL k = s.data.toList) := fun k => by
    rw [beq_str]
    exact decide_eq_decide.2 ⟨fun e => by rw [← e]; rfl, fun e => by rw [e]; rfl⟩
  have ix : ∀ k : Nat, k < 6 → ∀ W, (Instr.index 38 (.agg #[.string (bs (wordL 0)), .string (bs (wordL 1)), .string (bs (wordL 2)), .string (bs (wordL 3)), .string (bs (wordL 4)), .string (bs (wordL 5))]) (.int .i64 (k : Int))).run Tryd.prog W = .ok (.string (bs (wordL k))) W := fun k hk W => by
    rcases (show k = 0 ∨ k = 1 ∨ k = 2 ∨ k = 3 ∨ k = 4 ∨ k = 5 by omega) with rfl | rfl | rfl | rfl | rfl | rfl <;> kernel_rfl
  have HE := Lib.hid hE
  have HIX := Lib.hid ix
  clear h hE ix
  go_enter Tryd.func36, Tryd.ntmps36
  go_wp2
  go_loop [6] (fun i => ∃ k : Nat, k ≤ 6 ∧ i = .int .i64 k ∧ Hid (∀ j : Nat, j < k → wordL j ≠ s.data.toList)) (fun i => 6 - (intOf i).toNat)
  case atStart => exact ⟨0, by omega, rfl, Lib.hid (fun j hj => absurd hj (by omega))⟩
  case round =>
    obtain ⟨k, hk, rfl, HN⟩ := hrel
    by_cases hlt : k < 6
    · have hix := HIX.out k hlt
      have hk0 : (0 : Int) ≤ k := by omega
      have hk6 : (k : Int) < 6 := by omega
      by_cases he : wordL k = s.data.toList
      · have hb : ((bs (wordL k)).toList == s.toList) = true := by rw [HE.out]; exact decide_eq_true he
        have HK := Lib.hid (show kindL s.data.toList = k by
          rw [← he]
          rcases Nat.eq_zero_or_pos k with rfl | hp
          · decide
          · exact kindL_word (by omega) (by omega))
        clear he
        generalize bs (wordL k) = X at *
        go_wp2
        go_ret
        exact ⟨by rw [HK.out]; rfl, rfl⟩
      · have hb : ((bs (wordL k)).toList == s.toList) = false := by rw [HE.out]; exact decide_eq_false he
        have HM : Hid (∀ j : Nat, j < k + 1 → wordL j ≠ s.data.toList) := Lib.hid (fun j hj => by
          rcases Nat.lt_or_ge j k with h | h
          · exact HN.out j h
          · rw [show j = k by omega]; exact he)
        clear he
        generalize bs (wordL k) = X at *
        go_wp2
        exact ⟨⟨k + 1, by omega, by go_num, HM⟩, by simp [intOf]; omega⟩
    · obtain rfl : k = 6 := by omega
      have HK := Lib.hid (show kindL s.data.toList = 0 by
        have h1 := HN.out 1 (by decide)
        have h2 := HN.out 2 (by decide)
        have h3 := HN.out 3 (by decide)
        have h4 := HN.out 4 (by decide)
        have h5 := HN.out 5 (by decide)
        unfold kindL
        rw [if_neg (fun e => h1 e.symm), if_neg (fun e => h2 e.symm), if_neg (fun e => h3 e.symm), if_neg (fun e => h4 e.symm), if_neg (fun e => h5 e.symm)])
      go_wp2
      go_ret
      exact ⟨by rw [HK.out]; rfl, rfl⟩
end Go.Proofs.YtlccmhlbkgojlaaDoor
