/- Hexadecimal digits: the answer's. -/
import Derived.Test.YtlccmhlbkgojlaaDoorKit
import Derived.Test.YtlccmhlbkgojlaaDoorChecked
import Derived.Test.YtlccmhlbkgojlaaDoorHex
import Derived.Laws.Strings3
import Derived.IntWalk
namespace Go.Proofs.YtlccmhlbkgojlaaDoor
open Go.RowKit

theorem digit_any (c : UInt8) (w : World) : Calls Tryd.prog 40 #[.int .u8 (c.toNat : Int)] w fun e w' => e = .returned (.int .u32 (hval c : Int)) ∧ w = w' := by
  have hc : c.toNat < 256 := c.toNat_lt
  by_cases h1 : 48 ≤ c.toNat ∧ c.toNat ≤ 57
  · have HE := Lib.hid (show hval c = c.toNat - 48 by unfold hval; rw [if_pos h1])
    obtain ⟨h1, h2⟩ := h1
    go_enter Tryd.func40, Tryd.ntmps40
    go_wp2
    go_ret
    exact ⟨by rw [HE.out]; show Ending.returned (Value.int .u32 _) = _; congr 2; omega, rfl⟩
  · by_cases h2 : 97 ≤ c.toNat ∧ c.toNat ≤ 102
    · have HE := Lib.hid (show hval c = c.toNat - 87 by unfold hval; rw [if_neg h1, if_pos h2])
      obtain ⟨h2, h3⟩ := h2
      have h4 : 57 < c.toNat := by omega
      clear h1
      go_enter Tryd.func40, Tryd.ntmps40
      go_wp2
      go_ret
      exact ⟨by rw [HE.out]; show Ending.returned (Value.int .u32 _) = _; congr 2; omega, rfl⟩
    · have HE := Lib.hid (show hval c = 16 by unfold hval; rw [if_neg h1, if_neg h2])
      have hcase : c.toNat < 48 ∨ (57 < c.toNat ∧ c.toNat < 97) ∨ 102 < c.toNat := by omega
      clear h1 h2
      rcases hcase with h | ⟨h, h'⟩ | h
      all_goals
        go_enter Tryd.func40, Tryd.ntmps40
        go_wp2
        go_ret
        exact ⟨by rw [HE.out]; rfl, rfl⟩

/-- What the answer's hex tells: of eight digits their number; else that they are none. -/
def HexRes (l : Bs) (w : World) (e : Ending) (w' : World) : Prop := ∃ (v : Int) (ok : Bool), e = .returned (.tuple #[.int .u32 v, .bool ok]) ∧ w = w' ∧ 0 ≤ v ∧ v < 4294967296 ∧
  (ok = true → l = hex8 v) ∧ (ok = false → ∀ x : Int, 0 ≤ x → x < 4294967296 → l ≠ hex8 x)
theorem getElem_list (s : ByteArray) (k : Nat) (h : k < s.size) : s.data.toList[k]'(by simpa using h) = s[k] := rfl
theorem take_byte (s : ByteArray) (k : Nat) (h : k < s.size) : s.data.toList.take (k + 1) = s.data.toList.take k ++ [s[k]] := by
  rw [List.take_succ_eq_append_getElem (by simpa using h)]; rfl
theorem drop_byte (s : ByteArray) (k : Nat) (h : k < s.size) : s.data.toList.drop k = s[k] :: s.data.toList.drop (k + 1) := by
  rw [List.drop_eq_getElem_cons (by simpa using h)]; rfl
theorem size_list (s : ByteArray) : s.data.toList.length = s.size := rfl
theorem mem_byte (s : ByteArray) (k : Nat) (h : k < s.size) : s[k] ∈ s.data.toList := by
  rw [← getElem_list s k h]; exact List.getElem_mem _

set_option maxHeartbeats 1000000 in
set_option maxRecDepth 100000 in
theorem hex_ref (s : ByteArray) (w : World) (hs : s.size ≤ 65536) : Calls Tryd.prog 28 #[.string s] w (HexRes s.data.toList w) := by
  go_enter Tryd.func28, Tryd.ntmps28
  go_wp2
  go_loop [4, 5] (fun v i => ∃ k : Nat, k ≤ s.size ∧ i = .int .i64 k ∧ v = .int .u32 ((hnum (s.data.toList.take k) : Int) % 4294967296) ∧ Hid (∀ c ∈ s.data.toList.take k, hval c < 16)) (fun _ i => s.size - (intOf i).toNat)
  case atStart => exact ⟨0, Nat.zero_le _, rfl, rfl, Lib.hid (by simp)⟩
  case round =>
    obtain ⟨k, hk, rfl, rfl, HH⟩ := hrel
    by_cases hlt : k < s.size
    · by_cases hd : hval s[k] = 16
      · have HNO := Lib.hid (show ∀ x : Int, 0 ≤ x → x < 4294967296 → s.data.toList ≠ hex8 x from fun x _ _ he => by
          have := mem_byte s k hlt
          rw [he] at this
          have := (hexN_mem 8 _ _ this).1
          omega)
        have hdc : ∀ W, Calls Tryd.prog 40 #[.int .u8 (s[k].toNat : Int)] W fun e w' => e = .returned (.int .u32 16) ∧ W = w' := fun W => by
          have := digit_any s[k] W
          rwa [hd] at this
        clear hd
        go_wp2_with (go_at_call 40; refine (hdc _).mono ?_; rintro e w' ⟨rfl, rfl⟩)
        go_ret2
        exact ⟨0, false, rfl, rfl, by omega, by omega, (fun h => by cases h), fun _ => HNO.out⟩
      · have hd16 : hval s[k] < 16 := by
          have : hval s[k] ≤ 16 := by
            unfold hval
            split
            · omega
            · split <;> omega
          omega
        have HN := Lib.hid (show hnum (s.data.toList.take (k + 1)) = hnum (s.data.toList.take k) * 16 + hval s[k] by rw [take_byte s k hlt, hnum_snoc])
        have HM := Lib.hid (show ∀ c ∈ s.data.toList.take (k + 1), hval c < 16 by
          rw [take_byte s k hlt]
          intro c hc
          rw [List.mem_append] at hc
          rcases hc with hc | hc
          · exact HH.out c hc
          · rw [List.mem_singleton] at hc; rw [hc]; exact hd16)
        have hdc := fun W => digit_any s[k] W
        generalize hval s[k] = d at *
        have hd0 : 0 ≤ (d : Int) := by omega
        have hd1 : (d : Int) < 16 := by omega
        have hdb : ¬ (d : Int) = 16 := by omega
        generalize hnum (s.data.toList.take k) = h at *
        have hm0 : 0 ≤ (h : Int) % 4294967296 := by omega
        have hm1 : (h : Int) % 4294967296 < 4294967296 := by omega
        have hcalc : ((h : Int) % 4294967296 * 16 + d) % 4294967296 = ((h * 16 + d : Nat) : Int) % 4294967296 := by omega
        generalize ha : (h : Int) % 4294967296 = a at *
        have HC := Lib.hid ha
        clear hcalc ha hd hd16
        go_wp2_with (go_at_call 40; refine (hdc _).mono ?_; rintro e w' ⟨rfl, rfl⟩)
        refine ⟨⟨k + 1, by omega, by go_num, ?_, HM⟩, by simp [intOf]; omega⟩
        rw [HN.out]
        congr 1
        have := HC.out
        omega
    · have hkk : k = s.size := by omega
      subst hkk
      have HALL := Lib.hid (show ∀ c ∈ s.data.toList, hval c < 16 by have := HH.out; rwa [List.take_of_length_le (by rw [size_list]; exact Nat.le_refl _)] at this)
      rw [List.take_of_length_le (by rw [size_list]; exact Nat.le_refl _)]
      by_cases h8 : s.size = 8
      · have hn := hnum_lt8 (l := s.data.toList) h8 HALL.out
        have HE := Lib.hid (hex8_hnum (l := s.data.toList) h8 HALL.out)
        generalize hnum s.data.toList = h at *
        have h8' : ((s.size : Int) == 8) = true := by simp; omega
        go_wp2
        go_ret2
        exact ⟨(h : Int) % 4294967296, true, rfl, rfl, by omega, by omega, fun _ => by rw [show (h : Int) % 4294967296 = h by omega]; exact HE.out.symm, (fun h => by cases h)⟩
      · have h8' : ((s.size : Int) == 8) = false := by simp; omega
        have HNO := Lib.hid (show ∀ x : Int, 0 ≤ x → x < 4294967296 → s.data.toList ≠ hex8 x from fun x _ _ he => h8 (by rw [← size_list, he, hex8_len]))
        generalize hnum s.data.toList = h at *
        clear h8
        go_wp2
        go_ret2
        exact ⟨(h : Int) % 4294967296, false, rfl, rfl, by omega, by omega, (fun h => by cases h), fun _ => HNO.out⟩

theorem hexD_slice (d : Nat) (h : d < 16) : ∀ W, (Instr.slice 9 (.string ⟨#[48, 49, 50, 51, 52, 53, 54, 55, 56, 57, 97, 98, 99, 100, 101, 102]⟩) (some (.int .u32 (d : Int))) (some (.int .u32 ((d : Int) + 1))) none).run Tryd.prog W = .ok (.string (bs [hexD d])) W := by
  intro W
  rcases (show d = 0 ∨ d = 1 ∨ d = 2 ∨ d = 3 ∨ d = 4 ∨ d = 5 ∨ d = 6 ∨ d = 7 ∨ d = 8 ∨ d = 9 ∨ d = 10 ∨ d = 11 ∨ d = 12 ∨ d = 13 ∨ d = 14 ∨ d = 15 by omega) with rfl | rfl | rfl | rfl | rfl | rfl | rfl | rfl | rfl | rfl | rfl | rfl | rfl | rfl | rfl | rfl <;> kernel_rfl
theorem hexN_bs (n v : Nat) : (bs (hexN n v)).size = n := by rw [bs_size, hexN_len]

set_option maxHeartbeats 1000000 in
theorem hexT_ref (x : Int) (w : World) (h0 : 0 ≤ x) (h1 : x < 4294967296) : Calls Tryd.prog 24 #[.int .u32 x] w fun e w' => e = .returned (.string (hexB x)) ∧ w = w' := by
  obtain ⟨v, rfl⟩ : ∃ v : Nat, x = v := ⟨x.toNat, by omega⟩
  have hv : v < 4294967296 := by omega
  clear h0 h1
  go_enter Tryd.func24, Tryd.ntmps24
  go_wp2
  go_loop [0, 3, 4] (fun u s i => ∃ k : Nat, k ≤ 8 ∧ i = .int .i64 k ∧ u = .int .u32 ((v / 16 ^ k : Nat) : Int) ∧ s = .string (bs (hexN k v))) (fun _ _ i => 8 - (intOf i).toNat)
  case atStart => exact ⟨0, by omega, rfl, by simp, rfl⟩
  case round =>
    obtain ⟨k, hk, rfl, rfl, rfl⟩ := hrel
    by_cases hlt : k < 8
    · have HN := Lib.hid (show hexN (k + 1) v = hexD (v / 16 ^ k % 16) :: hexN k v from hexN_front k v)
      have HD := Lib.hid (show v / 16 ^ (k + 1) = v / 16 ^ k / 16 by rw [Nat.pow_succ, Nat.div_div_eq_div_mul])
      have hq : v / 16 ^ k < 4294967296 := Nat.lt_of_le_of_lt (Nat.div_le_self _ _) hv
      have hsz := hexN_bs k v
      generalize v / 16 ^ k = q at *
      generalize hB : bs (hexN k v) = B at *
      have HB := Lib.hid hB
      clear hB
      have hr : q % 16 < 16 := by omega
      have hrI : ((q : Nat) : Int) % 16 = ((q % 16 : Nat) : Int) := by omega
      generalize q % 16 = r at *
      have hsl := hexD_slice r hr
      have hsz1 : (bs [hexD r]).size = 1 := rfl
      have HAPP := Lib.hid (show bs [hexD r] ++ B = bs (hexD r :: hexN k v) by rw [← HB.out, bs_app]; rfl)
      generalize bs [hexD r] = D at *
      go_wp2
      refine ⟨⟨k + 1, by omega, by go_num, by rw [HD.out]; go_num, ?_⟩, by simp [intOf]; omega⟩
      rw [HN.out, ← HAPP.out]
    · have hkk : k = 8 := by omega
      subst hkk
      go_wp2
      go_ret
      exact ⟨rfl, rfl⟩
end Go.Proofs.YtlccmhlbkgojlaaDoor
