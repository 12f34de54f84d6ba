/- The answer's Text: a number's digits. -/
import Derived.Test.YtdneicbbnbbffaaDoorKit
import Derived.Test.YtdneicbbnbbffaaDoorChecked
import Derived.Lib.ItoaNum
import Derived.Laws.BytesArg
namespace Go.Proofs.YtdneicbbnbbffaaDoor
open Go.RowKit

/-- A number's digits. -/
def digB (i : Nat) : ByteArray := ⟨(Lib.decDigits i).toArray⟩
/-- A text of one byte. -/
def oneB (d : Int) : ByteArray := strOfNums [d]
theorem oneB_size (d : Int) : (oneB d).size = 1 := strOfNums_size [d]
theorem conv_one (W : World) (d : Int) : (convert 36 9 (.slice (some ⟨W.heap.size, 0, none⟩) 1 1)).run Tryd.prog (W.alloc (.cells #[.int .u8 d] 5)) = .ok (.string (oneB d)) (W.alloc (.cells #[.int .u8 d] 5)) :=
  run_convert_bytes_arg _ 36 5 Tryd.underlying36 Tryd.underlying5 W.heap.size 0 1 1 [d] rfl (fun i hi => by
    obtain rfl : i = 0 := by omega
    exact (Row.new W _ _).cell_ rfl) _ Tryd.underlying9

theorem dig_one {i : Nat} (h : i < 10) : oneB (48 + (i : Int)) ++ ⟨#[]⟩ = digB i := by
  have e : oneB (48 + (i : Int)) = digB i := by
    simp only [oneB, strOfNums, digB, Lib.decDigits_one h, List.map_cons, List.map_nil]
    rw [show (48 + (i : Int)).toNat = 48 + i by omega]
  rw [e]
  exact ByteArray.append_empty
theorem dig_two {i : Nat} (h1 : 10 ≤ i) (h2 : i < 100) : oneB (48 + ((i / 10 : Nat) : Int)) ++ oneB (48 + ((i % 10 : Nat) : Int)) = digB i := by
  simp only [oneB, strOfNums, digB, Lib.decDigits_two (by omega) h2, List.map_cons, List.map_nil]
  rw [show (48 + ((i / 10 : Nat) : Int)).toNat = 48 + i / 10 by omega, show (48 + ((i % 10 : Nat) : Int)).toNat = 48 + i % 10 by omega]
  rfl

theorem text_small (i : Nat) (w : World) (hi : i < 100) :
    Calls Tryd.prog 28 #[.int .i64 i] w fun e w' => e = .returned (.string (digB i)) ∧ Only Nil w w' := by
  have h0 : (0 : Int) ≤ (i : Int) := by omega
  have h1 : (i : Int) < 100 := by omega
  have hc := conv_one
  have hs := oneB_size
  go_enter Tryd.func28, Tryd.ntmps28
  go_wp2
  go_loopw [0, 3] (fun n s wr => ((n = .int .i64 i ∧ s = .string ⟨#[]⟩) ∨ (10 ≤ i ∧ n = .int .i64 ((i / 10 : Nat) : Int) ∧ s = .string (oneB (48 + ((i % 10 : Nat) : Int))))) ∧ Only Nil w wr) (fun n _ _ => (intOf n).toNat)
  case atStart => exact ⟨.inl ⟨rfl, rfl⟩, Only.refl _ _⟩
  case round =>
    obtain ⟨hcase, hO⟩ := hrel
    have HO := Lib.hid hO
    clear hO
    rcases hcase with ⟨rfl, rfl⟩ | ⟨hge, rfl, rfl⟩
    · by_cases hlt : i < 10
      · have hlt' : (i : Int) < 10 := by omega
        have HD := Lib.hid (dig_one hlt)
        go_wp2
        go_ret
        exact ⟨by rw [← HD.out]; rfl, HO.out.alloc _⟩
      · have hge' : ¬ (i : Int) < 10 := by omega
        go_wp2
        have e1 : (i : Int) / 10 = ((i / 10 : Nat) : Int) := by omega
        have e2 : (i : Int) % 10 = ((i % 10 : Nat) : Int) := by omega
        refine ⟨⟨.inr ⟨by omega, by rw [e1], ?_⟩, HO.out.alloc _⟩, by simp [intOf]; omega⟩
        rw [e2]
        exact congrArg Value.string ByteArray.append_empty
    · have hlt' : ((i / 10 : Nat) : Int) < 10 := by omega
      have hn' : 0 ≤ ((i / 10 : Nat) : Int) := by omega
      have HD := Lib.hid (dig_two hge hi)
      generalize ((i / 10 : Nat) : Int) = q at *
      go_wp2
      go_ret
      exact ⟨by rw [← HD.out]; rfl, HO.out.alloc _⟩
end Go.Proofs.YtdneicbbnbbffaaDoor
