/- A number read from hexadecimal digits, as the library does it. -/
import Derived.Test.YtlccmhlbkgojlaaDoorKit
import Derived.Test.YtlccmhlbkgojlaaDoorChecked
import Derived.Test.YtlccmhlbkgojlaaDoorAccM
import Derived.Test.YtlccmhlbkgojlaaDoorAtoi
import Derived.Lib.Strings
import Derived.Lib.Walk
import Derived.Lib.ConvBytes
import Derived.Lib.ParseIntBMem
import Derived.Lib.AtoiErrMem
import Derived.Lib.Hide
import Derived.Laws.Strings3
import Derived.Laws.Closers25
import Derived.Laws.Closers25b
import Derived.BigCall
import Derived.BigGuard
namespace Go.Proofs.YtlccmhlbkgojlaaDoor
open Go.RowKit

def lowV (c : UInt8) : Int := bits .or .u8 (c.toNat : Int) 32
/-- A digit's worth; 99: none. -/
def xval (c : UInt8) : Int := if 48 ≤ c.toNat ∧ c.toNat ≤ 57 then (c.toNat : Int) - 48 else if 97 ≤ lowV c ∧ lowV c ≤ 102 then lowV c - 87 else 99
def par16 (acc : Nat) : Bs → Lib.NumEnd Nat
  | [] => .ok acc
  | c :: r => if 16 ≤ xval c then Lib.NumEnd.syntax else if 4294967295 < acc * 16 + (xval c).toNat then .range else par16 (acc * 16 + (xval c).toNat) r
theorem xval_ge (c : UInt8) : 0 ≤ xval c := by
  unfold xval
  split
  · omega
  · split <;> omega
theorem xval_hval (c : UInt8) (h : hval c < 16) : xval c = hval c := by
  unfold hval at h
  by_cases h1 : 48 ≤ c.toNat ∧ c.toNat ≤ 57
  · rw [xval, hval, if_pos h1, if_pos h1]; omega
  · rw [if_neg h1] at h
    by_cases h2 : 97 ≤ c.toNat ∧ c.toNat ≤ 102
    · have e : lowV c = c.toNat := by
        have hc : c.toNat = 97 ∨ c.toNat = 98 ∨ c.toNat = 99 ∨ c.toNat = 100 ∨ c.toNat = 101 ∨ c.toNat = 102 := by omega
        unfold lowV
        rcases hc with h | h | h | h | h | h <;> rw [h] <;> decide +kernel
      rw [xval, hval, if_neg h1, if_neg h1, if_pos h2, e, if_pos (by omega)]; omega
    · rw [if_neg h2] at h; omega
theorem par16_ok : ∀ (l : Bs) (acc : Nat), (∀ c ∈ l, hval c < 16) → l.foldl (fun v c => v * 16 + hval c) acc < 4294967296 → par16 acc l = .ok (l.foldl (fun v c => v * 16 + hval c) acc)
  | [], acc, _, _ => rfl
  | c :: r, acc, h, hb => by
    have hc := h c (by simp)
    have hx := xval_hval c hc
    rw [List.foldl_cons] at hb ⊢
    have hmono : ∀ (l : Bs) (a : Nat), a ≤ l.foldl (fun v c => v * 16 + hval c) a := by
      intro l
      induction l with
      | nil => intro a; exact Nat.le_refl _
      | cons d r ih => intro a; rw [List.foldl_cons]; exact Nat.le_trans (by omega) (ih _)
    have hm := hmono r (acc * 16 + hval c)
    rw [par16, if_neg (by omega), hx, Int.toNat_natCast, if_neg (by omega)]
    exact par16_ok r _ (fun d hd => h d (by simp [hd])) hb
theorem par16_hex8 {v : Int} (h0 : 0 ≤ v) (h : v < 4294967296) : par16 0 (hex8 v) = .ok v.toNat := by
  have e := hnum_hex8 h0 h
  have e2 := par16_ok (hex8 v) 0 (fun c hc => (hexN_mem 8 _ c hc).1) (by show hnum (hex8 v) < _; omega)
  rw [e2]
  show Lib.NumEnd.ok (hnum (hex8 v)) = _
  rw [show hnum (hex8 v) = v.toNat by omega]
theorem par16_lt : ∀ (l : Bs) (acc u : Nat), acc ≤ 4294967295 → par16 acc l = .ok u → u ≤ 4294967295
  | [], acc, u, h, e => by
    simp only [par16, Lib.NumEnd.ok.injEq] at e
    omega
  | c :: r, acc, u, h, e => by
    rw [par16] at e
    split at e
    · cases e
    · split at e
      · cases e
      · exact par16_lt r _ u (by omega) e

set_option maxHeartbeats 4000000 in
set_option maxRecDepth 100000 in
theorem parseUint_in (t : ByteArray) (hne : t.size ≠ 0) (hmax : t.size ≤ 65536) (w : World) :
    Calls Tryd.prog 68 #[.string t, .int .i64 16, .int .i64 32] w fun e w' => e = .returned (Lib.uintTupleM 94 4294967295 (par16 0 t.data.toList)) ∧ w' = Lib.bytesWorld w 5 t := by
  have hemp : t.toList.isEmpty = false := by
    rw [← decide_eq_emptyBytes]
    exact decide_eq_false (fun h => hne (by rw [h]; rfl))
  have hcv := Lib.run_convert_string_bytes (P := Tryd.prog) w 9 57 5 t (u := .string) Tryd.underlying9 Tryd.underlying57 Tryd.underlying5
  have hB : ∀ j, j < t.size → (Lib.bytesWorld w 5 t).cell? ⟨w.heap.size, j, none⟩ = some (.int .u8 (t.data.toList.getD j 0).toNat) := fun j hj => Lib.bytesWorld_cell w 5 t j hj
  obtain ⟨W1, hW1⟩ : ∃ W1, W1 = Lib.bytesWorld w 5 t := ⟨_, rfl⟩
  rw [← hW1] at hcv hB ⊢
  clear hW1
  obtain ⟨bs, hL⟩ : ∃ bs, bs = t.data.toList := ⟨_, rfl⟩
  have hLn : bs.length = t.size := by rw [hL, Lib.size_eq]
  rw [← hL] at hB ⊢
  clear hL
  have hmv : IntKind.u64.wrap (IntKind.u64.wrap 4294967296 - 1) = 4294967295 := by
    rw [IntKind.wrap_u64, IntKind.wrap_u64]
    decide
  go_enter Tryd.func68, Tryd.ntmps68
  go_wp2
  go_loop [12, 13, 101] (fun vu vn vi => ∃ (k acc : Nat) (a : Int), vu = .bool false ∧ vn = .int .u64 a ∧ vi = .int .i64 k ∧ k ≤ t.size ∧ Hid (a = (acc : Int) ∧ acc ≤ 4294967295 ∧ par16 0 bs = par16 acc (bs.drop k)))
    (fun _ _ vi => t.size - (intOf vi).toNat)
  case atStart => exact ⟨0, 0, 0, rfl, rfl, rfl, by omega, rfl, by omega, rfl⟩
  case round =>
    obtain ⟨k, acc, a, rfl, rfl, rfl, hk, hh⟩ := hrel
    obtain ⟨ha, hacc, hdec⟩ := hh.out
    clear hh
    have a0 : 0 ≤ a := by omega
    have a1 : a ≤ 4294967295 := by omega
    by_cases hkn : k < t.size
    · have hc := hB k hkn
      have hdrop : bs.drop k = bs[k]'(by omega) :: bs.drop (k + 1) := List.drop_eq_getElem_cons (by omega)
      have hget : bs.getD k 0 = bs[k]'(by omega) := by simp [List.getD, List.getElem?_eq_getElem (show k < bs.length by omega)]
      rw [hdrop] at hdec
      rw [hget] at hc
      generalize bs[k]'(by omega) = c at hc hdec
      have hc256 : c.toNat < 256 := c.toNat_lt
      clear hB hdrop hget
      by_cases hdig : 48 ≤ c.toNat ∧ c.toNat ≤ 57
      · have hxe : xval c = (c.toNat : Int) - 48 := if_pos hdig
        obtain ⟨hd0, hd1⟩ := hdig
        by_cases hov : 4294967295 < acc * 16 + (xval c).toNat
        · have hF : par16 acc (c :: bs.drop (k + 1)) = .range := by rw [par16, if_neg (by omega), if_pos hov]
          rw [hF] at hdec
          have iov : 4294967295 < a * 16 + ((c.toNat : Int) - 48) := by omega
          have HD := Lib.hid hdec
          clear hacc hF hov ha hxe hdec
          go_wp2
          go_ret2
          exact ⟨by rw [HD.out]; rfl, rfl⟩
        · have hF : par16 acc (c :: bs.drop (k + 1)) = par16 (acc * 16 + (xval c).toNat) (bs.drop (k + 1)) := by rw [par16, if_neg (by omega), if_neg hov]
          have HN : Hid (a * 16 + ((c.toNat : Int) - 48) = ((acc * 16 + (xval c).toNat : Nat) : Int) ∧ acc * 16 + (xval c).toNat ≤ 4294967295 ∧ par16 0 bs = par16 (acc * 16 + (xval c).toNat) (bs.drop (k + 1))) := Lib.hid ⟨by omega, by omega, hdec.trans hF⟩
          have iov : a * 16 + ((c.toNat : Int) - 48) ≤ 4294967295 := by omega
          clear hacc hF hov hdec ha hxe
          go_wp2
          refine ⟨⟨k + 1, acc * 16 + (xval c).toNat, a * 16 + ((c.toNat : Int) - 48), rfl, (by first | rfl | (congr 1; omega)), (by first | rfl | (congr 1; omega)), by omega, HN⟩, by simp [intOf]; omega⟩
      · have hv0 : 0 ≤ lowV c := bits_lo_u8 .or (c.toNat : Int) 32
        have hv1 : lowV c ≤ 255 := bits_hi_u8 .or (c.toNat : Int) 32
        have hu0 := bits_lo_u8 .or 95 32
        have hu1 := bits_hi_u8 .or 95 32
        have hlow : ∀ W, Calls Tryd.prog 80 #[.int .u8 (c.toNat : Int)] W fun e w' => e = .returned (.int .u8 (lowV c)) ∧ w' = W := fun W => Tryd.internal_strconv_lower _ W
        by_cases hhex : 97 ≤ lowV c ∧ lowV c ≤ 102
        · have hxe : xval c = lowV c - 87 := by rw [xval, if_neg hdig, if_pos hhex]
          have h95 : ¬ c.toNat = 95 := by
            intro h
            have e : lowV c = 127 := by unfold lowV; rw [h]; decide +kernel
            omega
          obtain ⟨hd0, hd1⟩ := hhex
          generalize lowV c = L at *
          by_cases hov : 4294967295 < acc * 16 + (xval c).toNat
          · have hF : par16 acc (c :: bs.drop (k + 1)) = .range := by rw [par16, if_neg (by omega), if_pos hov]
            rw [hF] at hdec
            have iov : 4294967295 < a * 16 + (L - 87) := by omega
            have HD := Lib.hid hdec
            clear hacc hF hov ha hxe hdec
            go_wp2_with (go_at_call 80; refine (hlow _).mono ?_; rintro e w' ⟨rfl, rfl⟩)
            all_goals go_ret2
            all_goals exact ⟨by rw [HD.out]; rfl, rfl⟩
          · have hF : par16 acc (c :: bs.drop (k + 1)) = par16 (acc * 16 + (xval c).toNat) (bs.drop (k + 1)) := by rw [par16, if_neg (by omega), if_neg hov]
            have HN : Hid (a * 16 + (L - 87) = ((acc * 16 + (xval c).toNat : Nat) : Int) ∧ acc * 16 + (xval c).toNat ≤ 4294967295 ∧ par16 0 bs = par16 (acc * 16 + (xval c).toNat) (bs.drop (k + 1))) := Lib.hid ⟨by omega, by omega, hdec.trans hF⟩
            have iov : a * 16 + (L - 87) ≤ 4294967295 := by omega
            clear hacc hF hov hdec ha hxe
            go_wp2_with (go_at_call 80; refine (hlow _).mono ?_; rintro e w' ⟨rfl, rfl⟩)
            all_goals
              refine ⟨⟨k + 1, acc * 16 + (xval c).toNat, a * 16 + (L - 87), rfl, (by first | rfl | (congr 1; omega)), (by first | rfl | (congr 1; omega)), by omega, HN⟩, by simp [intOf]; omega⟩
        · have hF : par16 acc (c :: bs.drop (k + 1)) = Lib.NumEnd.syntax := by rw [par16, if_pos (by rw [xval, if_neg hdig, if_neg hhex]; omega)]
          rw [hF] at hdec
          have HD := Lib.hid hdec
          have hl2 : ¬ (97 ≤ lowV c ∧ lowV c ≤ 102) := hhex
          clear hacc hF ha hdec
          by_cases h95 : c.toNat = 95
          · have hc5 : W1.cell? ⟨w.heap.size, k, none⟩ = some (.int .u8 95) := by rw [hc, h95]; rfl
            have hlow5 : ∀ W, Calls Tryd.prog 80 #[.int .u8 95] W fun e w' => e = .returned (.int .u8 127) ∧ w' = W := fun W => by
              have e : bits .or .u8 95 32 = 127 := by decide +kernel
              have := Tryd.internal_strconv_lower 95 W
              rwa [e] at this
            clear hc h95 hlow hl2 hhex hv0 hv1 hdig hc256 hu0 hu1
            go_wp2_with (go_at_call 80; refine (hlow5 _).mono ?_; rintro e w' ⟨rfl, rfl⟩)
            go_ret2
            exact ⟨by rw [HD.out]; rfl, rfl⟩
          · generalize lowV c = L at *
            go_wp2_with (go_at_call 80; refine (hlow _).mono ?_; rintro e w' ⟨rfl, rfl⟩)
            all_goals go_ret2
            all_goals exact ⟨by rw [HD.out]; rfl, rfl⟩
    · have hkk : k = t.size := by omega
      subst hkk
      have hF : par16 acc (bs.drop t.size) = .ok acc := by rw [List.drop_eq_nil_of_le (by omega)]; rfl
      rw [hF] at hdec
      subst ha
      have HD := Lib.hid hdec
      clear hacc hF a0 a1 hdec
      go_wp2
      go_ret2
      exact ⟨by rw [HD.out]; rfl, rfl⟩
end Go.Proofs.YtlccmhlbkgojlaaDoor
