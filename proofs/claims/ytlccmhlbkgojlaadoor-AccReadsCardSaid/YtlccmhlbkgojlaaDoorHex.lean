/- What the variables hold that acc reads; eight hexadecimal digits. -/
import Derived.Test.YtlccmhlbkgojlaaDoorFmt
import Derived.Test.YtlccmhlbkgojlaaDoorStr
import Derived.Test.YtlccmhlbkgojlaaDoorItoa
import Derived.Lib.AppendIntMem
namespace Go.Proofs.YtlccmhlbkgojlaaDoor
open Go.RowKit

/-- What the variables hold that acc.Text reads. -/
structure Lies (w : World) : Prop where
  words : ∀ k : Nat, k < 6 → w.cell? ⟨0, k, none⟩ = some (.string (bs (wordL k)))
  pow : Lib.TabIs Tryd.prog w "internal/strconv.uint64pow10" .u64 Lib.pow10Tab
  tz : w.cell? ⟨8, 15, none⟩ = some (.int .u8 4)
theorem Lies.only {w w' : World} (h : Lies w) (ho : Only Nil w w') : Lies w' where
  words k hk := (ho.cell (p := ⟨0, k, none⟩) (World.block_lt_of_cell? w _ (h.words k hk)) id).trans (h.words k hk)
  pow := Lib.tabBelow_of_tabIs h.pow w' (ho.below (Nat.le_refl _) (fun _ _ => id))
  tz := (ho.cell (p := ⟨8, 15, none⟩) (World.block_lt_of_cell? w _ h.tz) id).trans h.tz
theorem Lies.drew {w : World} (h : Lies w) : Lies w.drew := h.only (Only.refl Nil w).drew
theorem itoa_any (c : Nat) (w : World) (hc : c ≤ 1048576) (h : Lies w) :
    Calls Tryd.prog 16 #[.int .i64 c] w fun e w' => e = .returned (.string (decB c)) ∧ Only Nil w w' := by
  refine (Tryd.strconv_Itoa c (by omega) (by omega) w h.pow).mono fun e w' ⟨he, k, os, hw⟩ => ⟨?_, ?_⟩
  · rw [he, Lib.itoa, if_neg (by omega)]; rfl
  · rw [hw]; exact ((Only.refl Nil w).drewN k).trans (grow_only _ os)

/-- A text of eight hexadecimal digits. -/
def hexB (x : Int) : ByteArray := bs (hex8 x)
theorem hexB_size (x : Int) : (hexB x).size = 8 := hex8_len x
theorem rep_zero : ∀ n, Lib.repeatL [48] n = List.replicate n 48
  | 0 => rfl
  | n + 1 => by rw [Lib.repeatL, rep_zero n]; rfl
theorem hex_any (x : Int) (w : World) (h0 : 0 ≤ x) (h1 : x < 4294967296) (h : Lies w) :
    Calls Tryd.prog 18 #[.int .u32 x] w fun e w' => e = .returned (.string (hexB x)) ∧ Only Nil w w' := by
  obtain ⟨v, rfl⟩ : ∃ v : Nat, x = v := ⟨x.toNat, by omega⟩
  have hv : v < 4294967296 := by omega
  obtain ⟨hl, h8⟩ := hex8_min hv
  have hb : hexB v = bs (List.replicate (8 - (hexMin v).length) 48) ++ bs (hexMin v) := by rw [bs_app, hexB, h8]
  obtain ⟨B, hB⟩ : ∃ B, B = bs (hexMin v) := ⟨_, rfl⟩
  have hsz : B.size = (hexMin v).length := by rw [hB, bs_size]
  obtain ⟨n, hn⟩ : ∃ n, n = 8 - (hexMin v).length := ⟨_, rfl⟩
  rw [← hB, ← hn] at hb
  have hn8 : B.size + n = 8 := by omega
  have hsub : (8 : Int) - (B.size : Int) = (n : Int) := by omega
  have hn0 : B.size ≤ 8 := by omega
  have hR : ∀ W, Calls Tryd.prog 32 #[.string ⟨#[48]⟩, .int .i64 (n : Int)] W fun e w' => e = .returned (.string (bs (List.replicate n 48))) ∧ Only Nil W w' := fun W =>
    (Tryd.strings_Repeat ⟨#[48]⟩ n W (by omega) (by show 1 * n ≤ _; omega)).mono fun e w' ⟨he, hw⟩ => ⟨by rw [he]; show _ = Ending.returned (Value.string (bs _)); rw [← rep_zero]; rfl, Only.of_below hw (fun k h1 h2 => absurd h1 (by omega))⟩
  have hrs : (bs (List.replicate n 48)).size = n := by rw [bs_size, List.length_replicate]
  generalize bs (List.replicate n 48) = R at *
  have hrn : R.size ≤ 8 := by omega
  have HF := Lib.hid (formatUint_16 v hv w h.tz)
  have HB := Lib.hid hb
  have HBB := Lib.hid hB
  have HR := Lib.hid hR
  clear hl h8 hb hB hsz hn hR hrs h1 h h0 hn8
  go_enter Tryd.func18, Tryd.ntmps18
  go_wp2_with fail
  refine HF.out.mono ?_
  rintro e w1 ⟨rfl, hO⟩
  have HO := Lib.hid hO
  clear hO
  rw [show (⟨(hexMin v).toArray⟩ : ByteArray) = B from HBB.out.symm]
  go_wp2_with fail
  refine (HR.out _).mono ?_
  rintro e w2 ⟨rfl, hO⟩
  have HO2 := Lib.hid (HO.out.trans hO)
  clear hO
  go_wp2
  go_ret
  exact ⟨by rw [HB.out]; rfl, HO2.out⟩
end Go.Proofs.YtlccmhlbkgojlaaDoor
