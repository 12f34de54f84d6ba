/- A number read from hexadecimal digits, as the library does it: with its errors. -/
import Derived.Test.YtlccmhlbkgojlaaDoorPar
namespace Go.Proofs.YtlccmhlbkgojlaaDoor
open Go.RowKit

set_option maxRecDepth 100000 in
theorem parseUint_empty (w : World) : Calls Tryd.prog 68 #[.string ⟨#[]⟩, .int .i64 16, .int .i64 32] w fun e w' => e = .returned (Lib.uintTupleM 94 4294967295 Lib.NumEnd.syntax) ∧ w = w' := by
  go_enter Tryd.func68, Tryd.ntmps68
  go_wp2
  go_ret2
  exact ⟨rfl, rfl⟩
def parU (l : Bs) : Lib.NumEnd Nat := if l = [] then Lib.NumEnd.syntax else par16 0 l
theorem parseUint_in_any (t : ByteArray) (hmax : t.size ≤ 65536) (w : World) :
    Calls Tryd.prog 68 #[.string t, .int .i64 16, .int .i64 32] w fun e w' => e = .returned (Lib.uintTupleM 94 4294967295 (parU t.data.toList)) ∧ Only Nil w w' := by
  by_cases h0 : t.size = 0
  · obtain rfl : t = ⟨#[]⟩ := by
      apply ByteArray.ext
      exact Array.eq_empty_of_size_eq_zero h0
    exact (parseUint_empty w).mono fun e w' ⟨he, hw⟩ => ⟨he, hw ▸ Only.refl _ _⟩
  · have hne : t.data.toList ≠ [] := fun h => h0 (by rw [Lib.size_eq, h]; rfl)
    refine (parseUint_in t h0 hmax w).mono fun e w' ⟨he, hw⟩ => ⟨?_, ?_⟩
    · rw [he, parU, if_neg hne]
    · rw [hw]; exact Only.of_below (Lib.bytesWorld_below _ _ _) (fun k h1 h2 => absurd h1 (by omega))

/-- What the variables of the library's errors hold: some error, or none. -/
def Errs (w : World) (g : Nat) : Prop := ∃ ev, w.cell? ⟨g, 0, none⟩ = some ev ∧ (ev = .nilIface ∨ ∃ te pe, ev = .iface te pe)
theorem Errs.only {w w' : World} {g : Nat} (h : Errs w g) (ho : Only Nil w w') : Errs w' g := by
  obtain ⟨ev, hc, he⟩ := h
  exact ⟨ev, (ho.cell (p := ⟨g, 0, none⟩) (World.block_lt_of_cell? w _ hc) id).trans hc, he⟩
/-- What a parse answers: some number; the number that the digits tell. -/
def ParsedU (l : Bs) (e : Ending) : Prop := ∃ (v : Nat) (er : Value), v ≤ 4294967295 ∧ e = .returned (.tuple #[.int .u64 v, er]) ∧ ∀ x : Int, 0 ≤ x → x < 4294967296 → l = hex8 x → (v : Int) = x
theorem parU_hex8 {x : Int} (h0 : 0 ≤ x) (h : x < 4294967296) : parU (hex8 x) = .ok x.toNat := by
  have : hex8 x ≠ [] := fun e => by have := hex8_len x; rw [e] at this; cases this
  rw [parU, if_neg this, par16_hex8 h0 h]
theorem not_hex8 {l : Bs} {r : Lib.NumEnd Nat} (h : parU l = r) (hr : ∀ n, r ≠ .ok n) (x : Int) (h0 : 0 ≤ x) (h1 : x < 4294967296) (hl : l = hex8 x) : False := by
  rw [hl, parU_hex8 h0 h1] at h
  exact hr _ h.symm

set_option maxHeartbeats 1000000 in
theorem parseUint_any (t : ByteArray) (hmax : t.size ≤ 65536) (w : World) (hs : Errs w 3) (hr : Errs w 4) :
    Calls Tryd.prog 50 #[.string t, .int .i64 16, .int .i64 32] w fun e w' => ParsedU t.data.toList e ∧ Only Nil w w' := by
  have HI := Lib.hid (parseUint_in_any t hmax w)
  have hlim : t.size ≤ 281474976710656 := by omega
  rcases hp : parU t.data.toList with v | _ | _
  ·
    have hI := HI.out
    rw [hp] at hI
    have hI : Calls Tryd.prog 68 #[.string t, .int .i64 16, .int .i64 32] w fun e w' => e = .returned (.tuple #[.int .u64 v, .nilIface]) ∧ Only Nil w w' := hI
    have hb : v ≤ 4294967295 := by
      unfold parU at hp
      split at hp
      · cases hp
      · exact par16_lt _ _ _ (by omega) hp
    have HP := Lib.hid hp
    clear hp HI hs hr
    go_enter Tryd.func50, Tryd.ntmps50
    go_wp2_with fail
    refine hI.mono ?_
    rintro e w1 ⟨rfl, hO⟩
    have HO := Lib.hid hO
    clear hO hI
    go_wp2
    go_ret2
    refine ⟨⟨v, .nilIface, hb, rfl, fun x h0 h1 hl => ?_⟩, HO.out⟩
    have e := HP.out
    rw [hl, parU_hex8 h0 h1] at e
    injection e with e
    omega
  ·
    have hI := HI.out
    rw [hp] at hI
    have hI : Calls Tryd.prog 68 #[.string t, .int .i64 16, .int .i64 32] w fun e w' => e = .returned (.tuple #[.int .u64 0, .iface 94 (.int .i64 2)]) ∧ Only Nil w w' := hI
    have HP := Lib.hid hp
    have HS := Lib.hid hs
    clear hp HI hr hs
    go_enter Tryd.func50, Tryd.ntmps50
    go_wp2_with fail
    refine hI.mono ?_
    rintro e w1 ⟨rfl, hO⟩
    have HO := Lib.hid hO
    obtain ⟨ev, hc, hev⟩ := HS.out.only hO
    have HC := Lib.hid hc
    clear hO hI hc
    go_wp2_with fail
    refine (Tryd.strconv_toError_syntax ⟨#[80, 97, 114, 115, 101, 85, 105, 110, 116]⟩ t 16 32 ev _ hlim HC.out hev).mono ?_
    rintro e w2 ⟨N, rfl, _, _, hb⟩
    have HO2 := Lib.hid (HO.out.trans (Only.of_below (S := Nil) hb (fun k h1 h2 => absurd h1 (by omega))))
    clear hb
    go_wp2
    go_ret2
    exact ⟨⟨0, _, by omega, rfl, fun x h0 h1 hl => absurd (not_hex8 HP.out (fun n h => by cases h) x h0 h1 hl) id⟩, HO2.out⟩
  ·
    have hI := HI.out
    rw [hp] at hI
    have hI : Calls Tryd.prog 68 #[.string t, .int .i64 16, .int .i64 32] w fun e w' => e = .returned (.tuple #[.int .u64 4294967295, .iface 94 (.int .i64 1)]) ∧ Only Nil w w' := hI
    have HP := Lib.hid hp
    have HS := Lib.hid hr
    clear hp HI hr hs
    go_enter Tryd.func50, Tryd.ntmps50
    go_wp2_with fail
    refine hI.mono ?_
    rintro e w1 ⟨rfl, hO⟩
    have HO := Lib.hid hO
    obtain ⟨ev, hc, hev⟩ := HS.out.only hO
    have HC := Lib.hid hc
    clear hO hI hc
    go_wp2_with fail
    refine (Tryd.strconv_toError_range ⟨#[80, 97, 114, 115, 101, 85, 105, 110, 116]⟩ t 16 32 ev _ hlim HC.out hev).mono ?_
    rintro e w2 ⟨N, rfl, _, _, hb⟩
    have HO2 := Lib.hid (HO.out.trans (Only.of_below (S := Nil) hb (fun k h1 h2 => absurd h1 (by omega))))
    clear hb
    go_wp2
    go_ret2
    exact ⟨⟨4294967295, _, by omega, rfl, fun x h0 h1 hl => absurd (not_hex8 HP.out (fun n h => by cases h) x h0 h1 hl) id⟩, HO2.out⟩
end Go.Proofs.YtlccmhlbkgojlaaDoor
