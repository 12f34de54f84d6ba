/- The words at first of a fair queue's lock; the law's example. -/
import Derived.Test.YtcdndaobdhbplaaPark
import Derived.Test.YtcdndaobdhbplaaFirst
import Derived.Test.YtcdndaobdhbplaaSame
set_option linter.unusedVariables false
set_option linter.unusedSimpArgs false
namespace Go.Proofs.Ytcdndaobdhbplaa
open Go.RowKit

/-- So many words, each 0, in a list of the call's own. -/
def Zeros (S : Nat) (w : World) (e : Ending) (w' : World) : Prop :=
  ∃ g, e = .returned (.tuple #[.slice (some ⟨g, 0, none⟩) S S, .int .i64 0]) ∧ w.heap.size ≤ g ∧ Held w' (some ⟨g, 0, none⟩) S S (List.replicate S 0) ∧ Only Nil w w' ∧ g < w'.heap.size

theorem words4 (S c : Nat) : words 4 S c 0 = List.replicate S 0 := by
  apply List.ext_getElem
  · simp [words]
  · intro i h1 h2; simp [words, wordI]

theorem first4 (n : Int) (S : Nat) (w : World) (hn : 1 ≤ n ∧ n ≤ 64) (hS : sizeI n = S) :
    Calls Try.prog 17 #[.int .i64 4, .int .i64 n, .int .u32 0] w (Zeros S w) := by
  refine (first_yes 4 n 0 S w (by omega) hn hS (by omega)).mono ?_
  rintro e w' ⟨g, rfl, hg, hR, hO⟩
  rw [words4] at hR
  have hI := Row.ints (k := .u32) (xs := List.replicate S 0) hR
  exact ⟨g, rfl, hg, ⟨by simp, (by intro h; cases h), hI⟩, hO, hR.lt⟩

def z0 : List Int := List.replicate 16 0
def z1 : List Int := st z0 (pc 2 1) 1
def z2 : List Int := st z1 (pc 2 1) 1
def z3 : List Int := st z2 (pc 2 1) 0

set_option maxRecDepth 100000 in
theorem awake_any (w : World) : Calls Try.prog 6 #[] w fun e w' => e = .returned (.bool true) ∧ Only Nil w w' := by
  have E1 := Lib.hid (show doVal z0 2 (pc 2 1) 1 0 = .agg #[.int .i64 2, .int .i64 15, .int .u32 1, .int .u32 0, .int .u32 0] ∧ there z0 (pc 2 1) = true from ⟨by kernel_rfl, by decide +kernel⟩)
  have E2 := Lib.hid (show doVal z1 2 (pc 2 1) 1 0 = .agg #[.int .i64 2, .int .i64 15, .int .u32 1, .int .u32 0, .int .u32 1] ∧ there z1 (pc 2 1) = true from ⟨by kernel_rfl, by decide +kernel⟩)
  have E3 := Lib.hid (show takeVal z2 2 1 = .agg #[.int .i64 4, .int .i64 15, .int .u32 0, .int .u32 0, .int .u32 1] ∧ hasP z2 2 1 = true from ⟨by kernel_rfl, by decide +kernel⟩)
  have E4 := Lib.hid (show takeVal z3 2 1 = .agg #[.int .i64 0, .int .i64 0, .int .u32 0, .int .u32 0, .int .u32 0] ∧ hasP z3 2 1 = false from ⟨by kernel_rfl, by decide +kernel⟩)
  go_enter Try.func6, Try.ntmps6
  go_wp2_with fail
  refine (first4 2 16 _ (by omega) (by decide)).mono ?_
  intro e w1 hF
  obtain ⟨g, rfl, hg, hH, hO, hgl⟩ := hF
  have HH := Lib.hid hH
  have HO1 := Lib.hid hO
  clear hH hO hg hgl
  go_wp2_with fail
  refine (from_ok (some ⟨g, 0, none⟩) 16 16 (List.replicate 16 0) _ (by omega) HH.out).mono ?_
  intro e w2 hF
  obtain ⟨b, A', c', rfl, hb, hA, hM, hO⟩ := hF
  have HM0 : Hid (Memo w2 (some ⟨b, 0, none⟩) A' c' z0) := Lib.hid (Memo.of hM)
  have hl : ∀ j, At (some (⟨b, 0, none⟩ : Addr)) j ∨ At A' j → w.heap.size ≤ j ∧ j < w2.heap.size := fun j hj => by
    have h1 := HM0.out.lt j hj
    have h2 := HO1.out.size
    refine ⟨?_, h1⟩
    rcases hj with ⟨a, ha, rfl⟩ | hj
    · cases ha; simp; omega
    · have := hA j hj; omega
  have HL := Lib.hid hl
  have HO2 : Hid (Only Nil w w2) := Lib.hid (HO1.out.trans hO)
  clear hM hO hA hb hl
  have HK0 : Hid (Lk w w2.heap.size (some ⟨b, 0, none⟩) A' c' 2 (w2.alloc (Obj.cells #[Value.int IntKind.i64 2] 30)) z0) :=
    Lib.hid ⟨HO2.out.alloc _, HM0.out.keep ((Only.refl Nil _).alloc _), Row.new _ _ _, HL.out⟩
  go_wp2_with fail
  refine (give_any (some ⟨b, 0, none⟩) A' c' z0 2 1 _ HK0.out.memo).mono ?_
  rw [E1.out.1, E1.out.2]
  rintro e w3 ⟨rfl, hO, hM⟩
  have HK1 : Hid (Lk w w2.heap.size (some ⟨b, 0, none⟩) A' c' 2 w3 z1) := Lib.hid (HK0.out.call hO hM)
  have l1 : w2.heap.size < w3.heap.size := HK1.out.map.lt
  have m1 : w3.cell? ⟨w2.heap.size, 0, none⟩ = some (.int .i64 2) := HK1.out.map.cell_ (i := 0) rfl
  clear hO hM
  go_wp2_with fail
  refine (give_any (some ⟨b, 0, none⟩) A' c' z1 2 1 _ (HK1.out.alloc _).memo).mono ?_
  rw [E2.out.1, E2.out.2]
  rintro e w4 ⟨rfl, hO, hM⟩
  have HK2 : Hid (Lk w w2.heap.size (some ⟨b, 0, none⟩) A' c' 2 w4 z2) := Lib.hid ((HK1.out.alloc _).call hO hM)
  have l2 : w2.heap.size < w4.heap.size := HK2.out.map.lt
  have m2 : w4.cell? ⟨w2.heap.size, 0, none⟩ = some (.int .i64 2) := HK2.out.map.cell_ (i := 0) rfl
  clear hO hM m1 l1
  go_wp2_with fail
  refine (take_any (some ⟨b, 0, none⟩) A' c' z2 2 1 _ (HK2.out.alloc _).memo).mono ?_
  rw [E3.out.1, E3.out.2]
  rintro e w5 ⟨rfl, hO, hM⟩
  have HK3 : Hid (Lk w w2.heap.size (some ⟨b, 0, none⟩) A' c' 2 w5 z3) := Lib.hid ((HK2.out.alloc _).call hO hM)
  have l3 : w2.heap.size < w5.heap.size := HK3.out.map.lt
  have m3 : w5.cell? ⟨w2.heap.size, 0, none⟩ = some (.int .i64 2) := HK3.out.map.cell_ (i := 0) rfl
  clear hO hM m2 l2
  go_wp2_with fail
  refine (take_any (some ⟨b, 0, none⟩) A' c' z3 2 1 _ (HK3.out.alloc _).memo).mono ?_
  rw [E4.out.1, E4.out.2]
  rintro e w6 ⟨rfl, hO, hM⟩
  have HK4 := Lib.hid ((HK3.out.alloc _).call hO hM)
  clear hO hM m3 l3
  go_wp2
  go_ret
  exact ⟨rfl, (HK4.out.alloc _).only⟩
end Go.Proofs.Ytcdndaobdhbplaa
