/- A number's hexadecimal digits, as the library tells them. -/
import Derived.Test.YtlccmhlbkgojlaaDoorKit
import Derived.Test.YtlccmhlbkgojlaaDoorChecked
import Derived.Test.YtlccmhlbkgojlaaDoorAccM
import Derived.Laws.BytesArg
import Derived.Laws.BitsAllLaws
import Derived.IntWalk
namespace Go.Proofs.YtlccmhlbkgojlaaDoor
open Go.RowKit

theorem tz64_16 (w : World) (h : w.cell? ⟨8, 15, none⟩ = some (.int .u8 4)) :
    Calls Tryd.prog 88 #[.int .u64 16] w fun e w' => e = .returned (.int .i64 4) ∧ w = w' := by
  have hv : IntKind.u64.wrap (bits .and .u64 16 (IntKind.u64.wrap (-16)) * 285870213051353865) / 288230376151711744 = 15 := by decide +kernel
  go_enter Tryd.func88, Tryd.ntmps88
  go_wp2
  go_ret
  exact ⟨rfl, rfl⟩
theorem tz_16 (w : World) (h : w.cell? ⟨8, 15, none⟩ = some (.int .u8 4)) :
    Calls Tryd.prog 77 #[.int .u64 16] w fun e w' => e = .returned (.int .i64 4) ∧ w = w' := by
  go_enter Tryd.func77, Tryd.ntmps77
  go_wp2_with (go_at_call 88; refine (tz64_16 _ h).mono ?_; rintro e w' ⟨rfl, rfl⟩)
  go_ret
  exact ⟨rfl, rfl⟩
theorem pow2_16 (w : World) :
    Calls Tryd.prog 76 #[.int .i64 16] w fun e w' => e = .returned (.bool true) ∧ w = w' := by
  have hv : bits .and .i64 16 15 = 0 := by decide +kernel
  go_enter Tryd.func76, Tryd.ntmps76
  go_wp2
  go_ret
  exact ⟨rfl, rfl⟩

/-- The library's buffer, with l at its end. -/
def bufOf (l : Bs) : Array Value := (List.replicate (65 - l.length) (Value.int .u8 0) ++ l.map fun c => Value.int .u8 (c.toNat : Int)).toArray
theorem bufOf_size {l : Bs} (h : l.length ≤ 65) : (bufOf l).size = 65 := by simp [bufOf]; omega
theorem bufOf_nil : bufOf [] = Tryd.zeroCells105 := by kernel_rfl
theorem bufOf_free {l : Bs} {j : Nat} (h : j < 65 - l.length) : (bufOf l)[j]? = some (.int .u8 0) := by
  unfold bufOf
  rw [List.getElem?_toArray, List.getElem?_append_left (by simpa using h)]
  simp [h]
theorem bufOf_set {l : Bs} {j : Nat} (c : UInt8) (h : j + l.length = 64) : (bufOf l).setIfInBounds j (.int .u8 (c.toNat : Int)) = bufOf (c :: l) := by
  unfold bufOf
  rw [show 65 - l.length = j + 1 by omega, show 65 - (c :: l).length = j by simp; omega]
  rw [List.setIfInBounds_toArray, List.set_append_left _ _ (by simp), List.replicate_succ', List.set_append_right _ _ (by simp)]
  simp
theorem bufOf_at {l : Bs} {i : Nat} (h : l.length ≤ 65) (hi : i < l.length) : (bufOf l)[65 - l.length + i]? = some (.int .u8 ((l.map fun c => (c.toNat : Int)).getD i 0)) := by
  unfold bufOf
  rw [List.getElem?_toArray, List.getElem?_append_right (by simp)]
  simp [List.getD, hi]
theorem hexD_at (j : Nat) (h : j < 16) : ∀ W, (Instr.index 9 (.string ⟨#[48, 49, 50, 51, 52, 53, 54, 55, 56, 57, 97, 98, 99, 100, 101, 102, 103, 104, 105, 106, 107, 108, 109, 110, 111, 112, 113, 114, 115, 116, 117, 118, 119, 120, 121, 122]⟩) (.int .u64 (j : Int))).run Tryd.prog W = .ok (.int .u8 ((hexD j).toNat : Int)) W := by
  intro W
  rcases (show j = 0 ∨ j = 1 ∨ j = 2 ∨ j = 3 ∨ j = 4 ∨ j = 5 ∨ j = 6 ∨ j = 7 ∨ j = 8 ∨ j = 9 ∨ j = 10 ∨ j = 11 ∨ j = 12 ∨ j = 13 ∨ j = 14 ∨ j = 15 by omega) with rfl | rfl | rfl | rfl | rfl | rfl | rfl | rfl | rfl | rfl | rfl | rfl | rfl | rfl | rfl | rfl <;> kernel_rfl
theorem and_15 (m : Nat) (h : m < 4294967296) : bits .and .u64 (m : Int) 15 = ((m % 16 : Nat) : Int) := by
  have e := u64_and_nat m 15 (by omega) (by omega)
  rw [nat_mask4] at e
  exact e

theorem slice_buf (g j : Nat) (hj : j < 65) : ∀ W, (Instr.sliceAt 105 (.pointer (some ⟨g, 0, none⟩)) (some (.int .i64 (j : Int))) none none).run Tryd.prog W = .ok (.slice (some ⟨g, j, none⟩) (65 - j) (65 - j)) W := by
  intro W
  have hal : Program.arrayLen Tryd.prog 105 = 65 := by kernel_rfl
  rw [run_sliceAt_array_l W 105 ⟨g, 0, none⟩ (by kernel_rfl) .i64 j (by omega) (by rw [hal]; omega), hal]
  have hs : (sizeOf (Program.elem Tryd.prog 105)).run Tryd.prog W = .ok 1 W := by kernel_rfl
  rw [hs]
  simp only [Result.andThen_ok, slicedAt, Int.toNat_natCast]
  rw [if_neg (by omega), add_at, Nat.zero_add, Nat.mul_one]
theorem str_of (l : Bs) : strOfNums (l.map fun c => (c.toNat : Int)) = ⟨l.toArray⟩ := by
  unfold strOfNums
  simp [List.map_map, Function.comp_def]
theorem conv_buf {W : World} {g j : Nat} {l : Bs} (h : Row W g 105 (bufOf l)) (hj : j + l.length = 65) : (convert 57 9 (.slice (some ⟨g, j, none⟩) (65 - j) (65 - j))).run Tryd.prog W = .ok (.string ⟨l.toArray⟩) W := by
  rw [run_convert_bytes_arg W 57 5 Tryd.underlying57 Tryd.underlying5 g j (65 - j) (65 - j) (l.map fun c => (c.toNat : Int)) (by simp; omega) (fun i hi => ?_) _ Tryd.underlying9, str_of]
  rw [show j = 65 - l.length by omega]
  exact h.cell_ (bufOf_at (by omega) (by omega))

set_option maxRecDepth 100000 in
theorem formatBits_16 (v : Nat) (hv : v < 4294967296) (w : World) (htz : w.cell? ⟨8, 15, none⟩ = some (.int .u8 4)) :
    Calls Tryd.prog 57 #[.slice none 0 0, .int .u64 v, .int .i64 16, .bool false, .bool false] w fun e w' => e = .returned (.tuple #[.slice none 0 0, .string ⟨(hexMin v).toArray⟩]) ∧ Only Nil w w' := by
  have hgz := World.block_lt_of_cell? w _ htz
  have htz' : ∀ o, (w.alloc o).cell? ⟨8, 15, none⟩ = some (.int .u8 4) := fun o => (World.cell?_alloc_lt w o _ hgz).trans htz
  have HV := Lib.hid (hex8_min hv).1
  have HB := Lib.hid hv
  clear hv htz hgz
  go_enter Tryd.func57, Tryd.ntmps57
  go_wp2_with (first
    | (go_at_call 76; refine (pow2_16 _).mono ?_; rintro e w' ⟨rfl, rfl⟩)
    | (go_at_call 77; refine (tz_16 _ (htz' _)).mono ?_; rintro e w' ⟨rfl, rfl⟩))
  have HR0 : Hid (Row (w.alloc (.cells Tryd.zeroCells105 105)) w.heap.size 105 (bufOf [])) := Lib.hid (by rw [bufOf_nil]; exact Row.new _ _ _)
  have HO0 := Lib.hid ((Only.refl Nil w).alloc (.cells Tryd.zeroCells105 105))
  have HG := Lib.hid (Nat.le_refl w.heap.size)
  clear htz'
  generalize w.alloc (.cells Tryd.zeroCells105 105) = w0 at *
  obtain ⟨g, hg⟩ : ∃ g, g = w.heap.size := ⟨_, rfl⟩
  rw [← hg] at HR0 HG ⊢
  have HGE := Lib.hid hg
  clear hg
  go_loopw [1, 13] (fun u i wr => ∃ (m j : Nat) (l : Bs), u = .int .u64 m ∧ i = .int .i64 ((j : Int) + 1) ∧ m < 4294967296 ∧ j + l.length = 64 ∧ 57 ≤ j ∧ Hid (hexMin v = hexMin m ++ l) ∧ Row wr g 105 (bufOf l) ∧ Only Nil w wr) (fun u _ _ => (intOf u).toNat)
  case atStart => exact ⟨v, 64, [], rfl, rfl, HB.out, rfl, by omega, Lib.hid (by simp), HR0.out, HO0.out⟩
  case round =>
    obtain ⟨m, j, l, rfl, rfl, hm, hj, hj57, HH, hR, hO⟩ := hrel
    have HR := Lib.hid hR
    have HO := Lib.hid hO
    have HJ := Lib.hid hj
    have hj64 : j < 65 := by omega
    have c0 : wr.cell? ⟨g, j, none⟩ = some (.int .u8 0) := hR.cell_ (bufOf_free (by omega))
    have f0 : wr.frozen? ⟨g, j, none⟩ = false := hR.frozen j
    clear hR hO hj
    by_cases hlt : m < 16
    · have hx := hexD_at m hlt
      have HN : Hid (hexMin v = hexD m :: l) := Lib.hid (by rw [HH.out, hexMin_one hlt]; rfl)
      have hs := slice_buf g j hj64
      have hR2 := HR.out.set j (.int .u8 ((hexD m).toNat : Int))
      rw [bufOf_set (hexD m) HJ.out] at hR2
      have hcv := conv_buf (j := j) hR2 (by have := HJ.out; simp; omega)
      rw [← HN.out] at hcv
      have HO2 := Lib.hid (HO.out.setCell (p := ⟨g, j, none⟩) (.inl (Nat.le_of_eq HGE.out.symm)) (.int .u8 ((hexD m).toNat : Int)))
      clear hR2
      go_wp2
      go_ret2
      exact ⟨rfl, HO2.out⟩
    · have ha := and_15 m hm
      have hge : 16 ≤ m := by omega
      have HN : Hid (hexMin v = hexMin (m / 16) ++ hexD (m % 16) :: l) := Lib.hid (by rw [HH.out, hexMin_more hlt]; simp)
      have hlr : m % 16 < 16 := by omega
      clear hlt
      generalize m % 16 = r at *
      have hx := hexD_at r hlr
      have hR2 := HR.out.set j (.int .u8 ((hexD r).toNat : Int))
      rw [bufOf_set (hexD r) HJ.out] at hR2
      have HR2 := Lib.hid hR2
      clear hR2
      have HO2 := Lib.hid (HO.out.setCell (p := ⟨g, j, none⟩) (.inl (Nat.le_of_eq HGE.out.symm)) (.int .u8 ((hexD r).toNat : Int)))
      generalize ((hexD r).toNat : Int) = d at *
      go_wp2
      refine ⟨⟨m / 16, j - 1, hexD r :: l, by go_num, by congr 1; omega, by omega, by have := HJ.out; simp; omega, ?_, HN, ?_, HO2.out⟩, by simp [intOf]; omega⟩
      · have := HV.out
        rw [HN.out, List.length_append, List.length_cons] at this
        have := hexMin_pos (m / 16)
        have := HJ.out
        omega
      · exact HR2.out

theorem formatUint_16_in (v : Nat) (hv : v < 4294967296) (w : World) (htz : w.cell? ⟨8, 15, none⟩ = some (.int .u8 4)) :
    Calls Tryd.prog 42 #[.int .u64 v, .int .i64 16] w fun e w' => e = .returned (.string ⟨(hexMin v).toArray⟩) ∧ Only Nil w w' := by
  go_enter Tryd.func42, Tryd.ntmps42
  go_wp2_with fail
  refine (formatBits_16 v hv _ htz).mono ?_
  rintro e w1 ⟨rfl, hO⟩
  have HO := Lib.hid hO
  clear hO
  go_wp2
  go_ret
  exact ⟨rfl, HO.out⟩
theorem formatUint_16 (v : Nat) (hv : v < 4294967296) (w : World) (htz : w.cell? ⟨8, 15, none⟩ = some (.int .u8 4)) :
    Calls Tryd.prog 31 #[.int .u64 v, .int .i64 16] w fun e w' => e = .returned (.string ⟨(hexMin v).toArray⟩) ∧ Only Nil w w' := by
  go_enter Tryd.func31, Tryd.ntmps31
  go_wp2_with fail
  refine (formatUint_16_in v hv _ htz).mono ?_
  rintro e w1 ⟨rfl, hO⟩
  have HO := Lib.hid hO
  clear hO
  go_wp2
  go_ret
  exact ⟨rfl, HO.out⟩
end Go.Proofs.YtlccmhlbkgojlaaDoor
