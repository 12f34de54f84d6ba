/- Accesses read from texts: the answer's state. -/
import Derived.Test.YtlccmhlbkgojlaaDoorParse
import Derived.Test.YtlccmhlbkgojlaaDoorRefWords
import Derived.Test.YtlccmhlbkgojlaaDoorRefText
import Derived.Test.YtlccmhlbkgojlaaDoorTake
import Derived.Test.YtlccmhlbkgojlaaDoorStrEq
import Derived.RegionTactic
import Derived.BigRegion
namespace Go.Proofs.YtlccmhlbkgojlaaDoor
open Go.RowKit
set_option linter.unusedVariables false
set_option linter.unusedSimpArgs false

/-- The words as they stand, the box of the result and that of the access. -/
def St (w : World) (g gp g5 : Nat) (L : List Bs) (w' : World) (k c x y o : Int) : Prop := (w.heap.size ≤ g ∧ g < gp ∧ gp < g5) ∧ Only Nil w w' ∧ Row w' g 24 #[.int .i64 0, .int .i64 0, .int .u32 0, .int .u32 0, .int .u32 0] ∧ Row w' g5 24 #[.int .i64 k, .int .i64 c, .int .u32 x, .int .u32 y, .int .u32 o] ∧
  ∀ (j : Nat) (X : Bs), L[j]? = some X → w'.cell? ⟨gp, j, none⟩ = some (.string (bs X))
section
variable {w w' w'' : World} {g gp g5 : Nat} {L : List Bs} {k c x y o : Int}
theorem St.only (h : St w g gp g5 L w' k c x y o) (ho : Only Nil w' w'') : St w g gp g5 L w'' k c x y o :=
  ⟨h.1, h.2.1.trans ho, h.2.2.1.only ho id, h.2.2.2.1.only ho id, fun j X hj => (ho.cell (World.block_lt_of_cell? _ _ (h.2.2.2.2 j X hj)) id).trans (h.2.2.2.2 j X hj)⟩
theorem St.drewN (h : St w g gp g5 L w' k c x y o) (n : Nat) : St w g gp g5 L (w'.drewN n) k c x y o := h.only ((Only.refl _ _).drewN n)
theorem St.alloc (h : St w g gp g5 L w' k c x y o) (ob : Obj) : St w g gp g5 L (w'.alloc ob) k c x y o := h.only ((Only.refl _ _).alloc ob)
theorem St.set (h : St w g gp g5 L w' k c x y o) (i : Nat) (v : Value) {k' c' x' y' o' : Int}
    (he : (#[.int .i64 k, .int .i64 c, .int .u32 x, .int .u32 y, .int .u32 o] : Array Value).setIfInBounds i v = #[.int .i64 k', .int .i64 c', .int .u32 x', .int .u32 y', .int .u32 o']) : St w g gp g5 L (w'.setCell ⟨g5, i, none⟩ v) k' c' x' y' o' := by
  obtain ⟨⟨h1, h2, h3⟩, hO, ha, hb, hc⟩ := h
  refine ⟨⟨h1, h2, h3⟩, hO.setCell (.inl (by simp; omega)) _, ha.far (by simp; omega) _, he ▸ hb.set i v, fun j X hj => ?_⟩
  exact (World.cell?_of_block (w := w') (Below.heap_setCell w' ⟨g5, i, none⟩ v gp (by simp; omega))).trans (hc j X hj)
end
theorem dval_lt : ∀ (n : Nat) (l : Bs), l.length = n → (∀ c ∈ l, 48 ≤ c.toNat ∧ c.toNat ≤ 57) → dval l < 10 ^ n
  | 0, l, h, _ => by rw [List.length_eq_zero_iff.1 h]; decide
  | n + 1, l, h, hc => by
    obtain ⟨r, c, rfl, hr⟩ := snoc_of h
    have ih := dval_lt n r hr (fun x hx => hc x (List.mem_append_left _ hx))
    have := hc c (by simp)
    rw [dval_snoc, Nat.pow_succ]; omega
theorem dval_le {l : Bs} (h : l.length ≤ 4) (hc : ∀ c ∈ l, 48 ≤ c.toNat ∧ c.toNat ≤ 57) : dval l ≤ 9999 := by
  have h1 := dval_lt _ l rfl hc
  have h2 : 10 ^ l.length ≤ 10 ^ 4 := Nat.pow_le_pow_right (by decide) h
  omega
theorem has_done {l : Bs} {L : List Bs} {W0 XW X1 : Bs} {k d x y o : Int} (hcut : cut l = L) (k1 : 1 ≤ k) (k5 : k ≤ 5) (hn : L.length = cnt k) (h0 : L[0]? = some W0) (hk : kindL W0 = k) (h1 : L[1]? = some (decL d)) (d0 : 0 ≤ d) (d1 : d ≤ 1023)
    (hw : L[cnt k - 2]? = some wasL) (ho : L[cnt k - 1]? = some (hex8 o)) (o0 : 0 ≤ o ∧ o < 4294967296)
    (hx : (k = 1 ∧ x = 0) ∨ (k ≠ 1 ∧ L[2]? = some (hex8 x) ∧ 0 ≤ x ∧ x < 4294967296)) (hy : (k ≠ 5 ∧ y = 0) ∨ (k = 5 ∧ L[3]? = some (hex8 y) ∧ 0 ≤ y ∧ y < 4294967296)) : Has l ⟨k, d, x, y, o⟩ := by
  have hx' : 0 ≤ x ∧ x < 4294967296 := by rcases hx with ⟨_, rfl⟩ | ⟨_, _, h⟩; · exact ⟨by omega, by omega⟩
                                          · exact h
  have hy' : 0 ≤ y ∧ y < 4294967296 := by rcases hy with ⟨_, rfl⟩ | ⟨_, _, h⟩; · exact ⟨by omega, by omega⟩
                                          · exact h
  subst hcut
  exact has_of ⟨by simp only; omega, by simp only; omega, by simp only; omega, by simp only; omega, hx'.1, hx'.2, hy'.1, hy'.2, o0.1, o0.2⟩
    ⟨k1, k5, d0, d1, fun e => by rcases hx with h | h; · exact h.2
                                 · exact absurd e h.1,
      fun e => by rcases hy with h | h; · exact h.2
                  · exact absurd h.1 e⟩ hn (by rw [h0, kindL_is k1 hk]) h1 hw ho
    (fun e => by rcases hx with h | h; · exact absurd h.1 e
                 · exact h.2.1)
    (fun e => by rcases hy with h | h; · exact absurd e h.1
                 · exact h.2.1)
theorem was_list : (bs wasL).toList = [119, 97, 115] := by
  rw [ByteArray.toList_eq]; rfl
theorem was_yes {X : Bs} (h : X = wasL) : ((bs X).toList == [119, 97, 115]) = true := by rw [h, was_list]; rfl
theorem was_no {X : Bs} (h : ¬ X = wasL) : ((bs X).toList == [119, 97, 115]) = false := by
  rw [← was_list, beq_str]; exact decide_eq_false (fun e => h (bs_inj e))
def kdU (K : Int) (k : Nat) : Int := if K < k then K else 0
end Go.Proofs.YtlccmhlbkgojlaaDoor
