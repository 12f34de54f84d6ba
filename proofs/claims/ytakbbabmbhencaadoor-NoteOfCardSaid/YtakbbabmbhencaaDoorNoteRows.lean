/- The texts of all notes: note.Rows. -/
import Derived.Test.YtakbbabmbhencaaDoorNoteL
import Derived.Test.YtakbbabmbhencaaDoorNoteText
import Derived.Laws.MakeOwn
import Derived.WalkLawsBesides
import Derived.Deep.OwnRows
namespace Go.Proofs.YtakbbabmbhencaaDoor
open Go.RowKit
set_option linter.unusedVariables false
set_option linter.unusedSimpArgs false
def txOf (z : Nt) : ByteArray := txB z.t z.w z.o z.a
/-- The first k cells are the texts. -/
def Texts (w : World) (g : Nat) (zs : List Nt) (n k : Nat) : Prop := ∃ cs, Row w g 9 cs ∧ cs.size = n ∧ ∀ (j : Nat) (z : Nt), j < k → zs[j]? = some z → cs[j]? = some (.string (txOf z))
theorem Texts.only {w w' : World} {g : Nat} {zs : List Nt} {n k : Nat} (h : Texts w g zs n k) (ho : Only Nil w w') : Texts w' g zs n k := by
  obtain ⟨cs, hr, hc⟩ := h
  exact ⟨cs, hr.only ho id, hc⟩
theorem Texts.next {w : World} {g : Nat} {zs : List Nt} {n k : Nat} (h : Texts w g zs n k) (hk : k < n) {z : Nt} (hz : zs[k]? = some z) : Texts (w.setCell ⟨g, k, none⟩ (.string (txOf z))) g zs n (k + 1) := by
  obtain ⟨cs, hr, hs, hc⟩ := h
  refine ⟨_, hr.set k (.string (txOf z)), by simp [hs], fun j y hj hy => ?_⟩
  by_cases he : k = j
  · subst he
    rw [hz] at hy
    injection hy with hy
    subst hy
    simp [hs, hk]
  · rw [Array.getElem?_setIfInBounds, if_neg he]
    exact hc j y (by omega) hy
set_option maxRecDepth 100000 in
set_option maxHeartbeats 1000000 in
theorem rows_any (A : Option Addr) (m cap : Nat) (zs : List Nt) (w : World) (hz : zs.length = m) (hN : Notes w A zs) (hm1 : m ≤ 100) :
    Calls Tryd.prog 18 #[.slice A m cap] w fun e w' => e = .returned (.slice (some ⟨w.heap.size, 0, none⟩) m m) ∧ Texts w' w.heap.size zs m m ∧ Only Nil w w' := by
  have HZ := Lib.hid hz
  have HN := Lib.hid hN
  have hmk := fun W => run_make_row' (P := Tryd.prog) 37 9 (.string ByteArray.empty) 16 Tryd.underlying37 infoS rfl .i64 .i64 m (by omega) (by omega) W
  have HS := Lib.hid (show Texts (w.alloc (.cells (madeCells #[.string ByteArray.empty] m) 9)) w.heap.size zs m 0 from ⟨_, Row.new w _ _, size_madeCells _ _, fun j _ hj => absurd hj (by omega)⟩)
  have HO0 := Lib.hid ((Only.refl Nil w).alloc (.cells (madeCells #[.string ByteArray.empty] m) 9))
  clear hz hN
  generalize hg : w.heap.size = g at *
  have HG := Lib.hid hg
  clear hg
  go_enter Tryd.func18, Tryd.ntmps18
  go_wp2
  rw [HG.out]
  go_wp2
  go_loopw [11] (fun i wr => ∃ k : Nat, k ≤ m ∧ i = .int .i64 k ∧ Hid (Texts wr g zs m k) ∧ Hid (Only Nil w wr)) (fun i _ => m - (intOf i).toNat)
  case atStart => exact ⟨0, Nat.zero_le _, rfl, HS, HO0⟩
  case round =>
    obtain ⟨k, hk, rfl, HT, HO⟩ := hrel
    by_cases hlt : k < m
    · obtain ⟨z, hzk⟩ : ∃ z, zs[k]? = some z := ⟨_, List.getElem?_eq_getElem (by rw [HZ.out]; exact hlt)⟩
      have HZK := Lib.hid hzk
      obtain ⟨b, q, rfl, hb, hat⟩ := (HN.out.only HO.out) (by rw [HZ.out]; omega)
      obtain ⟨f0, f1, f2, f3⟩ := hat k z hzk
      clear hat hzk
      have HO1 := Lib.hid (HO.out.alloc (.cells #[.int .i64 z.t, .int .i64 z.w, .int .i64 z.o, .int .i64 z.a] 23))
      have HT1 := Lib.hid (HT.out.only ((Only.refl _ _).alloc (.cells #[.int .i64 z.t, .int .i64 z.w, .int .i64 z.o, .int .i64 z.a] 23)))
      go_wp2_with fail
      refine (text_note _ _ _ _ _).mono ?_
      rintro e w2 ⟨rfl, hO⟩
      have HO2 := Lib.hid (HO1.out.trans hO)
      have HT2 := Lib.hid (HT1.out.only hO)
      clear hO f0 f1 f2 f3
      obtain ⟨v, hv, hfr⟩ : ∃ v, w2.cell? ⟨g, k, none⟩ = some v ∧ w2.frozen? ⟨g, k, none⟩ = false := by
        obtain ⟨cs, hr, hs, _⟩ := HT2.out
        exact ⟨_, hr.cell_ (Array.getElem?_eq_getElem (by rw [hs]; exact hlt)), hr.frozen k⟩
      have HT3 := Lib.hid (HT2.out.next hlt HZK.out)
      have HO3 := Lib.hid (HO2.out.setCell (p := ⟨g, k, none⟩) (.inl (by show w.heap.size ≤ g; have := HG.out; omega)) (.string (txOf z)))
      rw [show txB z.t z.w z.o z.a = txOf z from rfl]
      generalize txOf z = X at *
      go_wp2
      exact ⟨⟨k + 1, by omega, by go_num, HT3, HO3⟩, by simp [intOf]; omega⟩
    · obtain rfl : k = m := by omega
      clear hlt hk
      go_wp2
      go_ret
      exact ⟨rfl, HT.out, HO.out⟩
end Go.Proofs.YtakbbabmbhencaaDoor
