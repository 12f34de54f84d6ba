import Derived.Test.YtkkldcggbekleaaG25
import Derived.Test.YtkkldcggbekleaaG2
import Derived.Test.YtkkldcggbekleaaG9
import Derived.Test.YtkkldcggbekleaaG24
import Derived.Test.YtkkldcggbekleaaG3
import Derived.Test.YtkkldcggbekleaaG11
set_option linter.unusedVariables false
set_option linter.unusedSimpArgs false
namespace Go.Proofs.Ytkkldcggbekleaa
open Go.RowKit
theorem lists_made (w : World) : ListsAt ((((((((w.alloc (.cells #[.int .i64 1, .int .i64 2] 3)).alloc (.cells #[.int .i64 3, .int .i64 4] 3)).alloc (.cells #[.int .i64 5, .int .i64 2] 3)).alloc (.cells #[.int .i64 6, .int .i64 4] 3)).alloc (.cells #[.int .i64 3, .int .i64 8, .int .i64 2] 3)).alloc (.cells #[.int .i64 1, .int .i64 7, .int .i64 4] 3)).alloc (.cells #[.int .i64 6, .int .i64 8, .int .i64 7, .int .i64 4] 3)).alloc (.cells #[.slice (some ⟨w.heap.size, 0, none⟩) 2 2, .slice (some ⟨w.heap.size + 1, 0, none⟩) 2 2, .slice (some ⟨w.heap.size + 1 + 1, 0, none⟩) 2 2, .slice (some ⟨w.heap.size + 1 + 1 + 1, 0, none⟩) 2 2, .slice (some ⟨w.heap.size + 1 + 1 + 1 + 1, 0, none⟩) 3 3, .slice (some ⟨w.heap.size + 1 + 1 + 1 + 1 + 1, 0, none⟩) 3 3, .slice (some ⟨w.heap.size + 1 + 1 + 1 + 1 + 1 + 1, 0, none⟩) 4 4] 23)) (w.heap.size + 1 + 1 + 1 + 1 + 1 + 1 + 1) opsQ := by
  have r0 : Row ((((((((w.alloc (.cells #[.int .i64 1, .int .i64 2] 3)).alloc (.cells #[.int .i64 3, .int .i64 4] 3)).alloc (.cells #[.int .i64 5, .int .i64 2] 3)).alloc (.cells #[.int .i64 6, .int .i64 4] 3)).alloc (.cells #[.int .i64 3, .int .i64 8, .int .i64 2] 3)).alloc (.cells #[.int .i64 1, .int .i64 7, .int .i64 4] 3)).alloc (.cells #[.int .i64 6, .int .i64 8, .int .i64 7, .int .i64 4] 3)).alloc (.cells #[.slice (some ⟨w.heap.size, 0, none⟩) 2 2, .slice (some ⟨w.heap.size + 1, 0, none⟩) 2 2, .slice (some ⟨w.heap.size + 1 + 1, 0, none⟩) 2 2, .slice (some ⟨w.heap.size + 1 + 1 + 1, 0, none⟩) 2 2, .slice (some ⟨w.heap.size + 1 + 1 + 1 + 1, 0, none⟩) 3 3, .slice (some ⟨w.heap.size + 1 + 1 + 1 + 1 + 1, 0, none⟩) 3 3, .slice (some ⟨w.heap.size + 1 + 1 + 1 + 1 + 1 + 1, 0, none⟩) 4 4] 23)) (w.heap.size) 3 #[.int .i64 1, .int .i64 2] := ((((((((Row.new w 3 _).alloc _).alloc _).alloc _).alloc _).alloc _).alloc _).alloc _)
  have r1 : Row ((((((((w.alloc (.cells #[.int .i64 1, .int .i64 2] 3)).alloc (.cells #[.int .i64 3, .int .i64 4] 3)).alloc (.cells #[.int .i64 5, .int .i64 2] 3)).alloc (.cells #[.int .i64 6, .int .i64 4] 3)).alloc (.cells #[.int .i64 3, .int .i64 8, .int .i64 2] 3)).alloc (.cells #[.int .i64 1, .int .i64 7, .int .i64 4] 3)).alloc (.cells #[.int .i64 6, .int .i64 8, .int .i64 7, .int .i64 4] 3)).alloc (.cells #[.slice (some ⟨w.heap.size, 0, none⟩) 2 2, .slice (some ⟨w.heap.size + 1, 0, none⟩) 2 2, .slice (some ⟨w.heap.size + 1 + 1, 0, none⟩) 2 2, .slice (some ⟨w.heap.size + 1 + 1 + 1, 0, none⟩) 2 2, .slice (some ⟨w.heap.size + 1 + 1 + 1 + 1, 0, none⟩) 3 3, .slice (some ⟨w.heap.size + 1 + 1 + 1 + 1 + 1, 0, none⟩) 3 3, .slice (some ⟨w.heap.size + 1 + 1 + 1 + 1 + 1 + 1, 0, none⟩) 4 4] 23)) (w.heap.size + 1) 3 #[.int .i64 3, .int .i64 4] := (((((((Row.at (by simp)).alloc _).alloc _).alloc _).alloc _).alloc _).alloc _)
  have r2 : Row ((((((((w.alloc (.cells #[.int .i64 1, .int .i64 2] 3)).alloc (.cells #[.int .i64 3, .int .i64 4] 3)).alloc (.cells #[.int .i64 5, .int .i64 2] 3)).alloc (.cells #[.int .i64 6, .int .i64 4] 3)).alloc (.cells #[.int .i64 3, .int .i64 8, .int .i64 2] 3)).alloc (.cells #[.int .i64 1, .int .i64 7, .int .i64 4] 3)).alloc (.cells #[.int .i64 6, .int .i64 8, .int .i64 7, .int .i64 4] 3)).alloc (.cells #[.slice (some ⟨w.heap.size, 0, none⟩) 2 2, .slice (some ⟨w.heap.size + 1, 0, none⟩) 2 2, .slice (some ⟨w.heap.size + 1 + 1, 0, none⟩) 2 2, .slice (some ⟨w.heap.size + 1 + 1 + 1, 0, none⟩) 2 2, .slice (some ⟨w.heap.size + 1 + 1 + 1 + 1, 0, none⟩) 3 3, .slice (some ⟨w.heap.size + 1 + 1 + 1 + 1 + 1, 0, none⟩) 3 3, .slice (some ⟨w.heap.size + 1 + 1 + 1 + 1 + 1 + 1, 0, none⟩) 4 4] 23)) (w.heap.size + 1 + 1) 3 #[.int .i64 5, .int .i64 2] := ((((((Row.at (by simp)).alloc _).alloc _).alloc _).alloc _).alloc _)
  have r3 : Row ((((((((w.alloc (.cells #[.int .i64 1, .int .i64 2] 3)).alloc (.cells #[.int .i64 3, .int .i64 4] 3)).alloc (.cells #[.int .i64 5, .int .i64 2] 3)).alloc (.cells #[.int .i64 6, .int .i64 4] 3)).alloc (.cells #[.int .i64 3, .int .i64 8, .int .i64 2] 3)).alloc (.cells #[.int .i64 1, .int .i64 7, .int .i64 4] 3)).alloc (.cells #[.int .i64 6, .int .i64 8, .int .i64 7, .int .i64 4] 3)).alloc (.cells #[.slice (some ⟨w.heap.size, 0, none⟩) 2 2, .slice (some ⟨w.heap.size + 1, 0, none⟩) 2 2, .slice (some ⟨w.heap.size + 1 + 1, 0, none⟩) 2 2, .slice (some ⟨w.heap.size + 1 + 1 + 1, 0, none⟩) 2 2, .slice (some ⟨w.heap.size + 1 + 1 + 1 + 1, 0, none⟩) 3 3, .slice (some ⟨w.heap.size + 1 + 1 + 1 + 1 + 1, 0, none⟩) 3 3, .slice (some ⟨w.heap.size + 1 + 1 + 1 + 1 + 1 + 1, 0, none⟩) 4 4] 23)) (w.heap.size + 1 + 1 + 1) 3 #[.int .i64 6, .int .i64 4] := (((((Row.at (by simp)).alloc _).alloc _).alloc _).alloc _)
  have r4 : Row ((((((((w.alloc (.cells #[.int .i64 1, .int .i64 2] 3)).alloc (.cells #[.int .i64 3, .int .i64 4] 3)).alloc (.cells #[.int .i64 5, .int .i64 2] 3)).alloc (.cells #[.int .i64 6, .int .i64 4] 3)).alloc (.cells #[.int .i64 3, .int .i64 8, .int .i64 2] 3)).alloc (.cells #[.int .i64 1, .int .i64 7, .int .i64 4] 3)).alloc (.cells #[.int .i64 6, .int .i64 8, .int .i64 7, .int .i64 4] 3)).alloc (.cells #[.slice (some ⟨w.heap.size, 0, none⟩) 2 2, .slice (some ⟨w.heap.size + 1, 0, none⟩) 2 2, .slice (some ⟨w.heap.size + 1 + 1, 0, none⟩) 2 2, .slice (some ⟨w.heap.size + 1 + 1 + 1, 0, none⟩) 2 2, .slice (some ⟨w.heap.size + 1 + 1 + 1 + 1, 0, none⟩) 3 3, .slice (some ⟨w.heap.size + 1 + 1 + 1 + 1 + 1, 0, none⟩) 3 3, .slice (some ⟨w.heap.size + 1 + 1 + 1 + 1 + 1 + 1, 0, none⟩) 4 4] 23)) (w.heap.size + 1 + 1 + 1 + 1) 3 #[.int .i64 3, .int .i64 8, .int .i64 2] := ((((Row.at (by simp)).alloc _).alloc _).alloc _)
  have r5 : Row ((((((((w.alloc (.cells #[.int .i64 1, .int .i64 2] 3)).alloc (.cells #[.int .i64 3, .int .i64 4] 3)).alloc (.cells #[.int .i64 5, .int .i64 2] 3)).alloc (.cells #[.int .i64 6, .int .i64 4] 3)).alloc (.cells #[.int .i64 3, .int .i64 8, .int .i64 2] 3)).alloc (.cells #[.int .i64 1, .int .i64 7, .int .i64 4] 3)).alloc (.cells #[.int .i64 6, .int .i64 8, .int .i64 7, .int .i64 4] 3)).alloc (.cells #[.slice (some ⟨w.heap.size, 0, none⟩) 2 2, .slice (some ⟨w.heap.size + 1, 0, none⟩) 2 2, .slice (some ⟨w.heap.size + 1 + 1, 0, none⟩) 2 2, .slice (some ⟨w.heap.size + 1 + 1 + 1, 0, none⟩) 2 2, .slice (some ⟨w.heap.size + 1 + 1 + 1 + 1, 0, none⟩) 3 3, .slice (some ⟨w.heap.size + 1 + 1 + 1 + 1 + 1, 0, none⟩) 3 3, .slice (some ⟨w.heap.size + 1 + 1 + 1 + 1 + 1 + 1, 0, none⟩) 4 4] 23)) (w.heap.size + 1 + 1 + 1 + 1 + 1) 3 #[.int .i64 1, .int .i64 7, .int .i64 4] := (((Row.at (by simp)).alloc _).alloc _)
  have r6 : Row ((((((((w.alloc (.cells #[.int .i64 1, .int .i64 2] 3)).alloc (.cells #[.int .i64 3, .int .i64 4] 3)).alloc (.cells #[.int .i64 5, .int .i64 2] 3)).alloc (.cells #[.int .i64 6, .int .i64 4] 3)).alloc (.cells #[.int .i64 3, .int .i64 8, .int .i64 2] 3)).alloc (.cells #[.int .i64 1, .int .i64 7, .int .i64 4] 3)).alloc (.cells #[.int .i64 6, .int .i64 8, .int .i64 7, .int .i64 4] 3)).alloc (.cells #[.slice (some ⟨w.heap.size, 0, none⟩) 2 2, .slice (some ⟨w.heap.size + 1, 0, none⟩) 2 2, .slice (some ⟨w.heap.size + 1 + 1, 0, none⟩) 2 2, .slice (some ⟨w.heap.size + 1 + 1 + 1, 0, none⟩) 2 2, .slice (some ⟨w.heap.size + 1 + 1 + 1 + 1, 0, none⟩) 3 3, .slice (some ⟨w.heap.size + 1 + 1 + 1 + 1 + 1, 0, none⟩) 3 3, .slice (some ⟨w.heap.size + 1 + 1 + 1 + 1 + 1 + 1, 0, none⟩) 4 4] 23)) (w.heap.size + 1 + 1 + 1 + 1 + 1 + 1) 3 #[.int .i64 6, .int .i64 8, .int .i64 7, .int .i64 4] := ((Row.at (by simp)).alloc _)
  have r7 : Row ((((((((w.alloc (.cells #[.int .i64 1, .int .i64 2] 3)).alloc (.cells #[.int .i64 3, .int .i64 4] 3)).alloc (.cells #[.int .i64 5, .int .i64 2] 3)).alloc (.cells #[.int .i64 6, .int .i64 4] 3)).alloc (.cells #[.int .i64 3, .int .i64 8, .int .i64 2] 3)).alloc (.cells #[.int .i64 1, .int .i64 7, .int .i64 4] 3)).alloc (.cells #[.int .i64 6, .int .i64 8, .int .i64 7, .int .i64 4] 3)).alloc (.cells #[.slice (some ⟨w.heap.size, 0, none⟩) 2 2, .slice (some ⟨w.heap.size + 1, 0, none⟩) 2 2, .slice (some ⟨w.heap.size + 1 + 1, 0, none⟩) 2 2, .slice (some ⟨w.heap.size + 1 + 1 + 1, 0, none⟩) 2 2, .slice (some ⟨w.heap.size + 1 + 1 + 1 + 1, 0, none⟩) 3 3, .slice (some ⟨w.heap.size + 1 + 1 + 1 + 1 + 1, 0, none⟩) 3 3, .slice (some ⟨w.heap.size + 1 + 1 + 1 + 1 + 1 + 1, 0, none⟩) 4 4] 23)) (w.heap.size + 1 + 1 + 1 + 1 + 1 + 1 + 1) 23 #[.slice (some ⟨w.heap.size, 0, none⟩) 2 2, .slice (some ⟨w.heap.size + 1, 0, none⟩) 2 2, .slice (some ⟨w.heap.size + 1 + 1, 0, none⟩) 2 2, .slice (some ⟨w.heap.size + 1 + 1 + 1, 0, none⟩) 2 2, .slice (some ⟨w.heap.size + 1 + 1 + 1 + 1, 0, none⟩) 3 3, .slice (some ⟨w.heap.size + 1 + 1 + 1 + 1 + 1, 0, none⟩) 3 3, .slice (some ⟨w.heap.size + 1 + 1 + 1 + 1 + 1 + 1, 0, none⟩) 4 4] := Row.at (by simp)
  intro i l hi
  match i, hi with
  | 0, hi => obtain rfl := Option.some.inj hi; exact ⟨_, r7.cell_ (i := 0) rfl, Row.op (l := [1, 2]) r0⟩
  | 1, hi => obtain rfl := Option.some.inj hi; exact ⟨_, r7.cell_ (i := 1) rfl, Row.op (l := [3, 4]) r1⟩
  | 2, hi => obtain rfl := Option.some.inj hi; exact ⟨_, r7.cell_ (i := 2) rfl, Row.op (l := [5, 2]) r2⟩
  | 3, hi => obtain rfl := Option.some.inj hi; exact ⟨_, r7.cell_ (i := 3) rfl, Row.op (l := [6, 4]) r3⟩
  | 4, hi => obtain rfl := Option.some.inj hi; exact ⟨_, r7.cell_ (i := 4) rfl, Row.op (l := [3, 8, 2]) r4⟩
  | 5, hi => obtain rfl := Option.some.inj hi; exact ⟨_, r7.cell_ (i := 5) rfl, Row.op (l := [1, 7, 4]) r5⟩
  | 6, hi => obtain rfl := Option.some.inj hi; exact ⟨_, r7.cell_ (i := 6) rfl, Row.op (l := [6, 8, 7, 4]) r6⟩
  | i + 7, hi => simp [opsQ] at hi
theorem foldQ_step {k : Nat} {mode op : Int} {l : List Int} {j : Nat} (hk : 1 ≤ k ∧ k ≤ 64) (hl : l ∈ opsQ) (h : l[j]? = some op) : aloneL LS.fq (40 + 8 * k) (newR k mode 0 op (foldQ k mode (l.take j) (fqXs k))) = (2, foldQ k mode (l.take (j + 1)) (fqXs k)) := by
  rw [foldQ_next h]
  exact Prod.ext ((opsQ_ok (mode := mode) hk (st_first (fq_len k) (fq_zero k)) l hl).2 j op h) rfl
set_option maxRecDepth 100000 in
set_option maxHeartbeats 2000000 in
theorem walk_fqAlone (a0 a1 a2 : Int) (w : World) (h0 : (Lit.int .u32 a0).wf = true) (h1 : (Lit.int .u8 a1).wf = true) (h2 : (Lit.int .i64 a2).wf = true) :
    Calls Try.prog 3 #[.int .u32 a0, .int .u8 a1, .int .i64 a2] w fun e w' => e = .returned (.bool true) ∧ Only Nil w w' := by
  have HBD := Lib.hid (wf_u32 h0)
  obtain ⟨n0, n1⟩ := wf_u8 h1
  obtain ⟨k, hkk⟩ : ∃ k : Nat, 1 + a1 % 64 = (k : Int) := ⟨(1 + a1 % 64).toNat, by omega⟩
  have HK := Lib.hid (show 1 ≤ k ∧ k ≤ 64 by omega)
  have HKK := Lib.hid hkk
  have HLS := Lib.hid (lists_made w)
  have HO := Lib.hid (((((((((Only.refl Nil w).alloc (.cells #[.int .i64 1, .int .i64 2] 3)).alloc (.cells #[.int .i64 3, .int .i64 4] 3)).alloc (.cells #[.int .i64 5, .int .i64 2] 3)).alloc (.cells #[.int .i64 6, .int .i64 4] 3)).alloc (.cells #[.int .i64 3, .int .i64 8, .int .i64 2] 3)).alloc (.cells #[.int .i64 1, .int .i64 7, .int .i64 4] 3)).alloc (.cells #[.int .i64 6, .int .i64 8, .int .i64 7, .int .i64 4] 3)).alloc (.cells #[.slice (some ⟨w.heap.size, 0, none⟩) 2 2, .slice (some ⟨w.heap.size + 1, 0, none⟩) 2 2, .slice (some ⟨w.heap.size + 1 + 1, 0, none⟩) 2 2, .slice (some ⟨w.heap.size + 1 + 1 + 1, 0, none⟩) 2 2, .slice (some ⟨w.heap.size + 1 + 1 + 1 + 1, 0, none⟩) 3 3, .slice (some ⟨w.heap.size + 1 + 1 + 1 + 1 + 1, 0, none⟩) 3 3, .slice (some ⟨w.heap.size + 1 + 1 + 1 + 1 + 1 + 1, 0, none⟩) 4 4] 23))
  clear h0 h1 h2 hkk
  go_enter Try.func3, Try.ntmps3
  go_upto_region 3 with (fail)
  rw [HKK.out]
  generalize ((((((((w.alloc (.cells #[.int .i64 1, .int .i64 2] 3)).alloc (.cells #[.int .i64 3, .int .i64 4] 3)).alloc (.cells #[.int .i64 5, .int .i64 2] 3)).alloc (.cells #[.int .i64 6, .int .i64 4] 3)).alloc (.cells #[.int .i64 3, .int .i64 8, .int .i64 2] 3)).alloc (.cells #[.int .i64 1, .int .i64 7, .int .i64 4] 3)).alloc (.cells #[.int .i64 6, .int .i64 8, .int .i64 7, .int .i64 4] 3)).alloc (.cells #[.slice (some ⟨w.heap.size, 0, none⟩) 2 2, .slice (some ⟨w.heap.size + 1, 0, none⟩) 2 2, .slice (some ⟨w.heap.size + 1 + 1, 0, none⟩) 2 2, .slice (some ⟨w.heap.size + 1 + 1 + 1, 0, none⟩) 2 2, .slice (some ⟨w.heap.size + 1 + 1 + 1 + 1, 0, none⟩) 3 3, .slice (some ⟨w.heap.size + 1 + 1 + 1 + 1 + 1, 0, none⟩) 3 3, .slice (some ⟨w.heap.size + 1 + 1 + 1 + 1 + 1 + 1, 0, none⟩) 4 4] 23)) = w1 at *
  generalize w.heap.size + 1 + 1 + 1 + 1 + 1 + 1 + 1 = gL at *
  clear HKK n0 n1
  have hk1 : (1 : Int) ≤ k := by have := HK.out; omega
  have hk2 : (k : Int) ≤ 64 := by have := HK.out; omega
  go_loopw [30] (fun iv wr => ∃ i : Nat, i ≤ 7 ∧ iv = .int .i64 i ∧ Only Nil w1 wr) (fun iv _ => 7 - (intOf iv).toNat)
  case atStart => exact ⟨0, Nat.zero_le _, rfl, Only.refl _ _⟩
  case round =>
    obtain ⟨i, hi, rfl, hOr⟩ := hrel
    have HOR := Lib.hid hOr
    clear hOr
    by_cases hlt : i < 7
    · obtain ⟨l, hl⟩ : ∃ l, opsQ[i]? = some l := ⟨_, List.getElem?_eq_getElem (show i < opsQ.length from hlt)⟩
      obtain ⟨g, hc1, hops⟩ := HLS.out i l hl
      have hc := cell_keep hc1 HOR.out
      clear hc1
      have HL := Lib.hid (List.mem_of_getElem? hl)
      have HOPS := Lib.hid hops
      clear hops hl
      generalize hlen : l.length = m at *
      have HLEN := Lib.hid hlen
      have hm9 : m ≤ 4 := by
        have h := HL.out
        simp only [opsQ, List.mem_cons, List.not_mem_nil, or_false] at h
        rcases h with rfl | rfl | rfl | rfl | rfl | rfl | rfl <;> simp at hlen <;> omega
      clear hlen
      go_wp2_with fail
      clear hc
      refine (first_fq k a0 _ HK.out HBD.out).mono ?_
      rintro e w2 ⟨gf, rfl, hg, hH, hO⟩
      have HH := Lib.hid hH
      have HO2 := Lib.hid hO
      clear hg hH hO
      go_wp2_with fail
      refine (from_ok _ _ _ _ _ (by omega) HH.out).mono ?_
      rintro e w3 ⟨b, A', c', rfl, hb, hA, hM, hO⟩
      have HM0 : Hid (Made w1 b A' c' (foldQ k a2 (l.take 0) (fqXs k)) w3) := Lib.hid ⟨hM, fun j hj => Nat.le_trans (HOR.out.trans HO2.out).size (hA j hj), (HOR.out.trans HO2.out).trans hO⟩
      have HW0 : Hid (Words (foldQ k a2 (l.take 0) (fqXs k))) := Lib.hid (fq_words k)
      clear hb hA hM hO HO2 HH
      go_wp2_with fail
      go_loopw [14] (fun jv wq => ∃ j : Nat, j ≤ m ∧ jv = .int .i64 j ∧ Made w1 b A' c' (foldQ k a2 (l.take j) (fqXs k)) wq ∧ Words (foldQ k a2 (l.take j) (fqXs k))) (fun jv _ => m - (intOf jv).toNat)
      case atStart => exact ⟨0, Nat.zero_le _, rfl, HM0.out, HW0.out⟩
      case round =>
        obtain ⟨j, hj, rfl, hM, hW⟩ := hrel
        clear HM0 HW0
        have HM := Lib.hid hM
        have HW := Lib.hid hW
        clear hM hW
        by_cases hjm : j < m
        · obtain ⟨op, hop⟩ : ∃ op, l[j]? = some op := ⟨_, List.getElem?_eq_getElem (by rw [HLEN.out]; exact hjm)⟩
          have c63 : wr.cell? ⟨g, j, none⟩ = some (.int .i64 op) := cell_keep (HOPS.out j op hop) HM.out.only
          have HAL := Lib.hid (foldQ_step (mode := a2) HK.out HL.out hop)
          clear hop
          generalize foldQ k a2 (l.take j) (fqXs k) = X0 at *
          generalize hX1 : foldQ k a2 (l.take (j + 1)) (fqXs k) = X1 at *
          have HX1 := Lib.hid hX1
          clear hX1
          go_wp2_with fail
          clear c63
          rw [show (40 : Int) + 8 * (k : Int) = ((40 + 8 * k : Nat) : Int) by push_cast; rfl]
          refine (alone_any (some ⟨b, 0, none⟩) A' c' k a2 op (40 + 8 * k) _ _ (Memo.of HM.out.mem) HW.out (by omega)).mono ?_
          rw [HAL.out]
          rintro e w5 ⟨nv, rfl, hO, hM, hW⟩
          have HM5 := Lib.hid (HM.out.call hO hM.mem)
          have HW5 := Lib.hid hW
          clear hO hM hW HM HW
          go_wp2
          go_roundw
          case rel => exact ⟨j + 1, by omega, by go_num, by rw [HX1.out]; exact HM5.out, by rw [HX1.out]; exact HW5.out⟩
          case measure => simp [intOf]; omega
        · obtain rfl : j = m := by omega
          have HQ := Lib.hid ((opsQ_ok (mode := a2) HK.out (st_first (fq_len k) (fq_zero k)) l HL.out).1.w)
          have HXS := Lib.hid (show l.take j = l by rw [← HLEN.out, List.take_length])
          have HM4 : Hid (Made w1 b A' c' (foldQ k a2 l (fqXs k)) wr) := Lib.hid (by have h := HM.out; rw [HXS.out] at h; exact h)
          clear HM HW
          go_wp2_with fail
          refine (load_any b A' c' _ 0 _ HM4.out.mem).mono ?_
          rw [show wordAt (foldQ k a2 l (fqXs k)) 0 = 0 from HQ.out.x]
          rintro e w5 ⟨rfl, hO, hM⟩
          have HM5 := Lib.hid (HM4.out.call hO hM)
          clear hO hM HM4
          go_wp2_with fail
          refine (load_any b A' c' _ 1 _ HM5.out.mem).mono ?_
          rw [show wordAt (foldQ k a2 l (fqXs k)) 1 = 0 from HQ.out.y]
          rintro e w6 ⟨rfl, hO, hM⟩
          have HM6 := Lib.hid (HM5.out.call hO hM)
          clear hO hM HM5
          go_wp2
          go_roundw
          case rel => exact ⟨i + 1, by omega, by go_num, HM6.out.only⟩
          case measure => simp [intOf]; omega
    · obtain rfl : i = 7 := by omega
      go_wp2_with fail
      refine (awake_any _).mono ?_
      rintro e w9 ⟨rfl, hO⟩
      have HO9 := Lib.hid ((HO.out.trans HOR.out).trans hO)
      clear hO
      go_wp2
      go_ret
      exact ⟨rfl, HO9.out⟩
end Go.Proofs.Ytkkldcggbekleaa
set_option linter.unusedVariables false
set_option linter.unusedSimpArgs false
namespace Go.Proofs.Ytkkldcggbekleaa
open Go.RowKit
def TriesR (k m : Nat) (mode p q v z : Int) : Prop := ∃ x1 x2 x3 x4 : List Int, aloneL LS.fq m (newR k mode 0 p (fqXs k)) = (2, x1) ∧ aloneL LS.fq m (newR k mode 0 q x1) = (v, x2) ∧ aloneL LS.fq m (newR k mode 0 z x2) = (2, x3) ∧ (v = 1 → aloneL LS.fq m (newR k mode 0 6 x3) = (2, x4))
theorem run_st {k : Nat} {mode op : Int} {xs : List Int} (hk : 1 ≤ k ∧ k ≤ 64) {s s' : Nat} {ret : Int} (h : nextQ s op = some (ret, s')) (hx : StQ k s xs) : ∃ ys, aloneL LS.fq (40 + 8 * k) (newR k mode 0 op xs) = (ret, ys) ∧ StQ k s' ys :=
  alone_fqG (mode := mode) chk_n hk (m := 40 + 8 * k) (by omega) h hx
theorem tries_of {k : Nat} {mode p q v z : Int} (hk : 1 ≤ k ∧ k ≤ 64) {s1 s2 s3 : Nat} (h1 : nextQ 0 p = some (2, s1)) (h2 : nextQ s1 q = some (v, s2)) (h3 : nextQ s2 z = some (2, s3)) (h4 : v = 1 → s3 = 0) : TriesR k (40 + 8 * k) mode p q v z := by
  obtain ⟨x1, e1, g1⟩ := run_st (mode := mode) hk h1 (st_first (fq_len k) (fq_zero k))
  obtain ⟨x2, e2, g2⟩ := run_st (mode := mode) hk h2 g1
  obtain ⟨x3, e3, g3⟩ := run_st (mode := mode) hk h3 g2
  by_cases hv : v = 1
  · have h := h4 hv
    subst h
    obtain ⟨x4, e4, _⟩ := run_st (mode := mode) hk (show nextQ 0 6 = some (2, 2) from rfl) g3
    exact ⟨x1, x2, x3, x4, e1, e2, e3, fun _ => e4⟩
  · exact ⟨x1, x2, x3, [], e1, e2, e3, fun h => absurd h hv⟩
theorem tries_ok {k : Nat} {mode : Int} (hk : 1 ≤ k ∧ k ≤ 64) : TriesR k (40 + 8 * k) mode 3 5 1 4 ∧ TriesR k (40 + 8 * k) mode 3 6 1 4 ∧ TriesR k (40 + 8 * k) mode 1 6 1 2 ∧ TriesR k (40 + 8 * k) mode 1 5 2 2 :=
  ⟨tries_of hk rfl rfl rfl (fun _ => rfl), tries_of hk rfl rfl rfl (fun _ => rfl), tries_of hk rfl rfl rfl (fun _ => rfl), tries_of hk rfl rfl rfl (fun h => absurd h (by decide))⟩
set_option maxRecDepth 100000 in
set_option maxHeartbeats 2000000 in
theorem walk_fqTries (a0 a1 a2 : Int) (w : World) (h0 : (Lit.int .u32 a0).wf = true) (h1 : (Lit.int .u8 a1).wf = true) (h2 : (Lit.int .i64 a2).wf = true) :
    Calls Try.prog 4 #[.int .u32 a0, .int .u8 a1, .int .i64 a2] w fun e w' => e = .returned (.bool true) ∧ Only Nil w w' := by
  have HBD := Lib.hid (wf_u32 h0)
  obtain ⟨n0, n1⟩ := wf_u8 h1
  obtain ⟨k, hkk⟩ : ∃ k : Nat, 1 + a1 % 64 = (k : Int) := ⟨(1 + a1 % 64).toNat, by omega⟩
  have HK := Lib.hid (show 1 ≤ k ∧ k ≤ 64 by omega)
  have HKK := Lib.hid hkk
  have HR := Lib.hid (Row.new w 38 #[.int .i64 3, .int .i64 5, .int .i64 1, .int .i64 4, .int .i64 3, .int .i64 6, .int .i64 1, .int .i64 4, .int .i64 1, .int .i64 6, .int .i64 1, .int .i64 2, .int .i64 1, .int .i64 5, .int .i64 2, .int .i64 2])
  have HO := Lib.hid ((Only.refl Nil w).alloc (.cells #[.int .i64 3, .int .i64 5, .int .i64 1, .int .i64 4, .int .i64 3, .int .i64 6, .int .i64 1, .int .i64 4, .int .i64 1, .int .i64 6, .int .i64 1, .int .i64 2, .int .i64 1, .int .i64 5, .int .i64 2, .int .i64 2] 38))
  clear h0 h1 h2 hkk
  go_enter Try.func4, Try.ntmps4
  go_upto_region 3 with (fail)
  rw [HKK.out]
  generalize w.alloc (.cells #[.int .i64 3, .int .i64 5, .int .i64 1, .int .i64 4, .int .i64 3, .int .i64 6, .int .i64 1, .int .i64 4, .int .i64 1, .int .i64 6, .int .i64 1, .int .i64 2, .int .i64 1, .int .i64 5, .int .i64 2, .int .i64 2] 38) = w1 at *
  generalize w.heap.size = gL at *
  clear HKK n0 n1
  have hk1 : (1 : Int) ≤ k := by have := HK.out; omega
  have hk2 : (k : Int) ≤ 64 := by have := HK.out; omega
  go_loopw [32] (fun iv wr => ∃ i : Nat, i ≤ 4 ∧ iv = .int .i64 i ∧ Only Nil w1 wr) (fun iv _ => 4 - (intOf iv).toNat)
  case atStart => exact ⟨0, Nat.zero_le _, rfl, Only.refl _ _⟩
  case round =>
    obtain ⟨i, hi, rfl, hOr⟩ := hrel
    have HOR := Lib.hid hOr
    clear hOr
    by_cases hlt : i < 4
    · have h4 : i = 0 ∨ i = 1 ∨ i = 2 ∨ i = 3 := by omega
      have HRR := Lib.hid (HR.out.only HOR.out id)
      have hbT := tries_ok (k := k) (mode := a2) HK.out
      obtain ⟨t1, t2, t3, t4⟩ := hbT
      have T1 := Lib.hid t1
      have T2 := Lib.hid t2
      have T3' := Lib.hid t3
      have T4 := Lib.hid t4
      clear t1 t2 t3 t4
      rcases h4 with rfl | rfl | rfl | rfl
      · have HTR := T1
        rw [show (((0 : Nat) : Int)) = 0 from rfl]
        have c0 : wr.cell? ⟨gL, 0, none⟩ = some (.int .i64 3) := HRR.out.cell_ (i := 0) rfl
        have c1 : wr.cell? ⟨gL, 1, none⟩ = some (.int .i64 5) := HRR.out.cell_ (i := 1) rfl
        have c2 : wr.cell? ⟨gL, 2, none⟩ = some (.int .i64 1) := HRR.out.cell_ (i := 2) rfl
        have c3 : wr.cell? ⟨gL, 3, none⟩ = some (.int .i64 4) := HRR.out.cell_ (i := 3) rfl
        have HX0 := Lib.hid (Row.new wr 38 #[.int .i64 3, .int .i64 5, .int .i64 1, .int .i64 4])
        have HO0 := Lib.hid ((Only.refl Nil wr).alloc (.cells #[.int .i64 3, .int .i64 5, .int .i64 1, .int .i64 4] 38))
        go_upto_region 5 with (fail)
        clear c0 c1 c2 c3
        generalize wr.alloc (.cells #[.int .i64 3, .int .i64 5, .int .i64 1, .int .i64 4] 38) = w2 at *
        generalize wr.heap.size = gx at *
        go_wp2_with fail
        refine (first_fq k a0 _ HK.out HBD.out).mono ?_
        rintro e w3 ⟨gf, rfl, hg, hH, hO⟩
        have HH := Lib.hid hH
        have HO3 := Lib.hid hO
        clear hg hH hO
        go_wp2_with fail
        refine (from_ok _ _ _ _ _ (by omega) HH.out).mono ?_
        rintro e w4 ⟨b, A', c', rfl, hb, hA, hM, hO⟩
        have HM0 : Hid (Made w2 b A' c' (fqXs k) w4) := Lib.hid ⟨hM, fun j hj => Nat.le_trans HO3.out.size (hA j hj), HO3.out.trans hO⟩
        have HW0 : Hid (Words (fqXs k)) := Lib.hid (fq_words _)
        clear hb hA hM hO HO3 HH
        obtain ⟨x1, x2, x3, x4, t1, t2, t3, t4⟩ := HTR.out
        have HT1 := Lib.hid t1
        have HT2 := Lib.hid t2
        have HT3 := Lib.hid t3
        have HT4 := Lib.hid t4
        clear t1 t2 t3 t4
        have d0 : w4.cell? ⟨gx, 0, none⟩ = some (.int .i64 3) := (HX0.out.only HM0.out.only id).cell_ (i := 0) rfl
        go_wp2_with fail
        clear d0
        rw [show (40 : Int) + 8 * (k : Int) = ((40 + 8 * k : Nat) : Int) by push_cast; rfl]
        refine (alone_any (some ⟨b, 0, none⟩) A' c' k a2 3 (40 + 8 * k) _ _ (Memo.of HM0.out.mem) HW0.out (by omega)).mono ?_
        rw [HT1.out]
        rintro e w5 ⟨nv1, rfl, hO, hM, hW⟩
        have HM1 := Lib.hid (HM0.out.call hO hM.mem)
        have HW1 := Lib.hid hW
        clear hO hM hW HM0 HW0
        have d1 : w5.cell? ⟨gx, 1, none⟩ = some (.int .i64 5) := (HX0.out.only HM1.out.only id).cell_ (i := 1) rfl
        go_wp2_with fail
        clear d1
        rw [show (40 : Int) + 8 * (k : Int) = ((40 + 8 * k : Nat) : Int) by push_cast; rfl]
        refine (alone_any (some ⟨b, 0, none⟩) A' c' k a2 5 (40 + 8 * k) _ _ (Memo.of HM1.out.mem) HW1.out (by omega)).mono ?_
        rw [HT2.out]
        rintro e w6 ⟨nv2, rfl, hO, hM, hW⟩
        have HM2 := Lib.hid (HM1.out.call hO hM.mem)
        have HW2 := Lib.hid hW
        clear hO hM hW HM1 HW1
        have d3 : w6.cell? ⟨gx, 3, none⟩ = some (.int .i64 4) := (HX0.out.only HM2.out.only id).cell_ (i := 3) rfl
        go_wp2_with fail
        clear d3
        rw [show (40 : Int) + 8 * (k : Int) = ((40 + 8 * k : Nat) : Int) by push_cast; rfl]
        refine (alone_any (some ⟨b, 0, none⟩) A' c' k a2 4 (40 + 8 * k) _ _ (Memo.of HM2.out.mem) HW2.out (by omega)).mono ?_
        rw [HT3.out]
        rintro e w7 ⟨nv3, rfl, hO, hM, hW⟩
        have HM3 := Lib.hid (HM2.out.call hO hM.mem)
        have HW3 := Lib.hid hW
        clear hO hM hW HM2 HW2
        have d2 : w7.cell? ⟨gx, 2, none⟩ = some (.int .i64 1) := (HX0.out.only HM3.out.only id).cell_ (i := 2) rfl
        have HT5 := Lib.hid (HT4.out (by first | rfl | trivial))
        go_wp2_with fail
        clear d2
        rw [show (40 : Int) + 8 * (k : Int) = ((40 + 8 * k : Nat) : Int) by push_cast; rfl]
        refine (alone_any (some ⟨b, 0, none⟩) A' c' k a2 6 (40 + 8 * k) _ _ (Memo.of HM3.out.mem) HW3.out (by omega)).mono ?_
        rw [HT5.out]
        rintro e w8 ⟨nv4, rfl, hO, hM, hW⟩
        have HM4 := Lib.hid (HM3.out.call hO hM.mem)
        have HW4 := Lib.hid hW
        clear hO hM hW HM3 HW3
        have HOF := Lib.hid ((HOR.out.trans HO0.out).trans HM4.out.only)
        go_wp2
        go_roundw
        case rel => exact ⟨0 + 1, by omega, rfl, HOF.out⟩
        case measure => simp [intOf]
      · have HTR := T2
        rw [show (((1 : Nat) : Int)) = 1 from rfl]
        have c4 : wr.cell? ⟨gL, 4, none⟩ = some (.int .i64 3) := HRR.out.cell_ (i := 4) rfl
        have c5 : wr.cell? ⟨gL, 5, none⟩ = some (.int .i64 6) := HRR.out.cell_ (i := 5) rfl
        have c6 : wr.cell? ⟨gL, 6, none⟩ = some (.int .i64 1) := HRR.out.cell_ (i := 6) rfl
        have c7 : wr.cell? ⟨gL, 7, none⟩ = some (.int .i64 4) := HRR.out.cell_ (i := 7) rfl
        have HX0 := Lib.hid (Row.new wr 38 #[.int .i64 3, .int .i64 6, .int .i64 1, .int .i64 4])
        have HO0 := Lib.hid ((Only.refl Nil wr).alloc (.cells #[.int .i64 3, .int .i64 6, .int .i64 1, .int .i64 4] 38))
        go_upto_region 5 with (fail)
        clear c4 c5 c6 c7
        generalize wr.alloc (.cells #[.int .i64 3, .int .i64 6, .int .i64 1, .int .i64 4] 38) = w2 at *
        generalize wr.heap.size = gx at *
        go_wp2_with fail
        refine (first_fq k a0 _ HK.out HBD.out).mono ?_
        rintro e w3 ⟨gf, rfl, hg, hH, hO⟩
        have HH := Lib.hid hH
        have HO3 := Lib.hid hO
        clear hg hH hO
        go_wp2_with fail
        refine (from_ok _ _ _ _ _ (by omega) HH.out).mono ?_
        rintro e w4 ⟨b, A', c', rfl, hb, hA, hM, hO⟩
        have HM0 : Hid (Made w2 b A' c' (fqXs k) w4) := Lib.hid ⟨hM, fun j hj => Nat.le_trans HO3.out.size (hA j hj), HO3.out.trans hO⟩
        have HW0 : Hid (Words (fqXs k)) := Lib.hid (fq_words _)
        clear hb hA hM hO HO3 HH
        obtain ⟨x1, x2, x3, x4, t1, t2, t3, t4⟩ := HTR.out
        have HT1 := Lib.hid t1
        have HT2 := Lib.hid t2
        have HT3 := Lib.hid t3
        have HT4 := Lib.hid t4
        clear t1 t2 t3 t4
        have d0 : w4.cell? ⟨gx, 0, none⟩ = some (.int .i64 3) := (HX0.out.only HM0.out.only id).cell_ (i := 0) rfl
        go_wp2_with fail
        clear d0
        rw [show (40 : Int) + 8 * (k : Int) = ((40 + 8 * k : Nat) : Int) by push_cast; rfl]
        refine (alone_any (some ⟨b, 0, none⟩) A' c' k a2 3 (40 + 8 * k) _ _ (Memo.of HM0.out.mem) HW0.out (by omega)).mono ?_
        rw [HT1.out]
        rintro e w5 ⟨nv1, rfl, hO, hM, hW⟩
        have HM1 := Lib.hid (HM0.out.call hO hM.mem)
        have HW1 := Lib.hid hW
        clear hO hM hW HM0 HW0
        have d1 : w5.cell? ⟨gx, 1, none⟩ = some (.int .i64 6) := (HX0.out.only HM1.out.only id).cell_ (i := 1) rfl
        go_wp2_with fail
        clear d1
        rw [show (40 : Int) + 8 * (k : Int) = ((40 + 8 * k : Nat) : Int) by push_cast; rfl]
        refine (alone_any (some ⟨b, 0, none⟩) A' c' k a2 6 (40 + 8 * k) _ _ (Memo.of HM1.out.mem) HW1.out (by omega)).mono ?_
        rw [HT2.out]
        rintro e w6 ⟨nv2, rfl, hO, hM, hW⟩
        have HM2 := Lib.hid (HM1.out.call hO hM.mem)
        have HW2 := Lib.hid hW
        clear hO hM hW HM1 HW1
        have d3 : w6.cell? ⟨gx, 3, none⟩ = some (.int .i64 4) := (HX0.out.only HM2.out.only id).cell_ (i := 3) rfl
        go_wp2_with fail
        clear d3
        rw [show (40 : Int) + 8 * (k : Int) = ((40 + 8 * k : Nat) : Int) by push_cast; rfl]
        refine (alone_any (some ⟨b, 0, none⟩) A' c' k a2 4 (40 + 8 * k) _ _ (Memo.of HM2.out.mem) HW2.out (by omega)).mono ?_
        rw [HT3.out]
        rintro e w7 ⟨nv3, rfl, hO, hM, hW⟩
        have HM3 := Lib.hid (HM2.out.call hO hM.mem)
        have HW3 := Lib.hid hW
        clear hO hM hW HM2 HW2
        have d2 : w7.cell? ⟨gx, 2, none⟩ = some (.int .i64 1) := (HX0.out.only HM3.out.only id).cell_ (i := 2) rfl
        have HT5 := Lib.hid (HT4.out (by first | rfl | trivial))
        go_wp2_with fail
        clear d2
        rw [show (40 : Int) + 8 * (k : Int) = ((40 + 8 * k : Nat) : Int) by push_cast; rfl]
        refine (alone_any (some ⟨b, 0, none⟩) A' c' k a2 6 (40 + 8 * k) _ _ (Memo.of HM3.out.mem) HW3.out (by omega)).mono ?_
        rw [HT5.out]
        rintro e w8 ⟨nv4, rfl, hO, hM, hW⟩
        have HM4 := Lib.hid (HM3.out.call hO hM.mem)
        have HW4 := Lib.hid hW
        clear hO hM hW HM3 HW3
        have HOF := Lib.hid ((HOR.out.trans HO0.out).trans HM4.out.only)
        go_wp2
        go_roundw
        case rel => exact ⟨1 + 1, by omega, rfl, HOF.out⟩
        case measure => simp [intOf]
      · have HTR := T3'
        rw [show (((2 : Nat) : Int)) = 2 from rfl]
        have c8 : wr.cell? ⟨gL, 8, none⟩ = some (.int .i64 1) := HRR.out.cell_ (i := 8) rfl
        have c9 : wr.cell? ⟨gL, 9, none⟩ = some (.int .i64 6) := HRR.out.cell_ (i := 9) rfl
        have c10 : wr.cell? ⟨gL, 10, none⟩ = some (.int .i64 1) := HRR.out.cell_ (i := 10) rfl
        have c11 : wr.cell? ⟨gL, 11, none⟩ = some (.int .i64 2) := HRR.out.cell_ (i := 11) rfl
        have HX0 := Lib.hid (Row.new wr 38 #[.int .i64 1, .int .i64 6, .int .i64 1, .int .i64 2])
        have HO0 := Lib.hid ((Only.refl Nil wr).alloc (.cells #[.int .i64 1, .int .i64 6, .int .i64 1, .int .i64 2] 38))
        go_upto_region 5 with (fail)
        clear c8 c9 c10 c11
        generalize wr.alloc (.cells #[.int .i64 1, .int .i64 6, .int .i64 1, .int .i64 2] 38) = w2 at *
        generalize wr.heap.size = gx at *
        go_wp2_with fail
        refine (first_fq k a0 _ HK.out HBD.out).mono ?_
        rintro e w3 ⟨gf, rfl, hg, hH, hO⟩
        have HH := Lib.hid hH
        have HO3 := Lib.hid hO
        clear hg hH hO
        go_wp2_with fail
        refine (from_ok _ _ _ _ _ (by omega) HH.out).mono ?_
        rintro e w4 ⟨b, A', c', rfl, hb, hA, hM, hO⟩
        have HM0 : Hid (Made w2 b A' c' (fqXs k) w4) := Lib.hid ⟨hM, fun j hj => Nat.le_trans HO3.out.size (hA j hj), HO3.out.trans hO⟩
        have HW0 : Hid (Words (fqXs k)) := Lib.hid (fq_words _)
        clear hb hA hM hO HO3 HH
        obtain ⟨x1, x2, x3, x4, t1, t2, t3, t4⟩ := HTR.out
        have HT1 := Lib.hid t1
        have HT2 := Lib.hid t2
        have HT3 := Lib.hid t3
        have HT4 := Lib.hid t4
        clear t1 t2 t3 t4
        have d0 : w4.cell? ⟨gx, 0, none⟩ = some (.int .i64 1) := (HX0.out.only HM0.out.only id).cell_ (i := 0) rfl
        go_wp2_with fail
        clear d0
        rw [show (40 : Int) + 8 * (k : Int) = ((40 + 8 * k : Nat) : Int) by push_cast; rfl]
        refine (alone_any (some ⟨b, 0, none⟩) A' c' k a2 1 (40 + 8 * k) _ _ (Memo.of HM0.out.mem) HW0.out (by omega)).mono ?_
        rw [HT1.out]
        rintro e w5 ⟨nv1, rfl, hO, hM, hW⟩
        have HM1 := Lib.hid (HM0.out.call hO hM.mem)
        have HW1 := Lib.hid hW
        clear hO hM hW HM0 HW0
        have d1 : w5.cell? ⟨gx, 1, none⟩ = some (.int .i64 6) := (HX0.out.only HM1.out.only id).cell_ (i := 1) rfl
        go_wp2_with fail
        clear d1
        rw [show (40 : Int) + 8 * (k : Int) = ((40 + 8 * k : Nat) : Int) by push_cast; rfl]
        refine (alone_any (some ⟨b, 0, none⟩) A' c' k a2 6 (40 + 8 * k) _ _ (Memo.of HM1.out.mem) HW1.out (by omega)).mono ?_
        rw [HT2.out]
        rintro e w6 ⟨nv2, rfl, hO, hM, hW⟩
        have HM2 := Lib.hid (HM1.out.call hO hM.mem)
        have HW2 := Lib.hid hW
        clear hO hM hW HM1 HW1
        have d3 : w6.cell? ⟨gx, 3, none⟩ = some (.int .i64 2) := (HX0.out.only HM2.out.only id).cell_ (i := 3) rfl
        go_wp2_with fail
        clear d3
        rw [show (40 : Int) + 8 * (k : Int) = ((40 + 8 * k : Nat) : Int) by push_cast; rfl]
        refine (alone_any (some ⟨b, 0, none⟩) A' c' k a2 2 (40 + 8 * k) _ _ (Memo.of HM2.out.mem) HW2.out (by omega)).mono ?_
        rw [HT3.out]
        rintro e w7 ⟨nv3, rfl, hO, hM, hW⟩
        have HM3 := Lib.hid (HM2.out.call hO hM.mem)
        have HW3 := Lib.hid hW
        clear hO hM hW HM2 HW2
        have d2 : w7.cell? ⟨gx, 2, none⟩ = some (.int .i64 1) := (HX0.out.only HM3.out.only id).cell_ (i := 2) rfl
        have HT5 := Lib.hid (HT4.out (by first | rfl | trivial))
        go_wp2_with fail
        clear d2
        rw [show (40 : Int) + 8 * (k : Int) = ((40 + 8 * k : Nat) : Int) by push_cast; rfl]
        refine (alone_any (some ⟨b, 0, none⟩) A' c' k a2 6 (40 + 8 * k) _ _ (Memo.of HM3.out.mem) HW3.out (by omega)).mono ?_
        rw [HT5.out]
        rintro e w8 ⟨nv4, rfl, hO, hM, hW⟩
        have HM4 := Lib.hid (HM3.out.call hO hM.mem)
        have HW4 := Lib.hid hW
        clear hO hM hW HM3 HW3
        have HOF := Lib.hid ((HOR.out.trans HO0.out).trans HM4.out.only)
        go_wp2
        go_roundw
        case rel => exact ⟨2 + 1, by omega, rfl, HOF.out⟩
        case measure => simp [intOf]
      · have HTR := T4
        rw [show (((3 : Nat) : Int)) = 3 from rfl]
        have c12 : wr.cell? ⟨gL, 12, none⟩ = some (.int .i64 1) := HRR.out.cell_ (i := 12) rfl
        have c13 : wr.cell? ⟨gL, 13, none⟩ = some (.int .i64 5) := HRR.out.cell_ (i := 13) rfl
        have c14 : wr.cell? ⟨gL, 14, none⟩ = some (.int .i64 2) := HRR.out.cell_ (i := 14) rfl
        have c15 : wr.cell? ⟨gL, 15, none⟩ = some (.int .i64 2) := HRR.out.cell_ (i := 15) rfl
        have HX0 := Lib.hid (Row.new wr 38 #[.int .i64 1, .int .i64 5, .int .i64 2, .int .i64 2])
        have HO0 := Lib.hid ((Only.refl Nil wr).alloc (.cells #[.int .i64 1, .int .i64 5, .int .i64 2, .int .i64 2] 38))
        go_upto_region 5 with (fail)
        clear c12 c13 c14 c15
        generalize wr.alloc (.cells #[.int .i64 1, .int .i64 5, .int .i64 2, .int .i64 2] 38) = w2 at *
        generalize wr.heap.size = gx at *
        go_wp2_with fail
        refine (first_fq k a0 _ HK.out HBD.out).mono ?_
        rintro e w3 ⟨gf, rfl, hg, hH, hO⟩
        have HH := Lib.hid hH
        have HO3 := Lib.hid hO
        clear hg hH hO
        go_wp2_with fail
        refine (from_ok _ _ _ _ _ (by omega) HH.out).mono ?_
        rintro e w4 ⟨b, A', c', rfl, hb, hA, hM, hO⟩
        have HM0 : Hid (Made w2 b A' c' (fqXs k) w4) := Lib.hid ⟨hM, fun j hj => Nat.le_trans HO3.out.size (hA j hj), HO3.out.trans hO⟩
        have HW0 : Hid (Words (fqXs k)) := Lib.hid (fq_words _)
        clear hb hA hM hO HO3 HH
        obtain ⟨x1, x2, x3, x4, t1, t2, t3, t4⟩ := HTR.out
        have HT1 := Lib.hid t1
        have HT2 := Lib.hid t2
        have HT3 := Lib.hid t3
        have HT4 := Lib.hid t4
        clear t1 t2 t3 t4
        have d0 : w4.cell? ⟨gx, 0, none⟩ = some (.int .i64 1) := (HX0.out.only HM0.out.only id).cell_ (i := 0) rfl
        go_wp2_with fail
        clear d0
        rw [show (40 : Int) + 8 * (k : Int) = ((40 + 8 * k : Nat) : Int) by push_cast; rfl]
        refine (alone_any (some ⟨b, 0, none⟩) A' c' k a2 1 (40 + 8 * k) _ _ (Memo.of HM0.out.mem) HW0.out (by omega)).mono ?_
        rw [HT1.out]
        rintro e w5 ⟨nv1, rfl, hO, hM, hW⟩
        have HM1 := Lib.hid (HM0.out.call hO hM.mem)
        have HW1 := Lib.hid hW
        clear hO hM hW HM0 HW0
        have d1 : w5.cell? ⟨gx, 1, none⟩ = some (.int .i64 5) := (HX0.out.only HM1.out.only id).cell_ (i := 1) rfl
        go_wp2_with fail
        clear d1
        rw [show (40 : Int) + 8 * (k : Int) = ((40 + 8 * k : Nat) : Int) by push_cast; rfl]
        refine (alone_any (some ⟨b, 0, none⟩) A' c' k a2 5 (40 + 8 * k) _ _ (Memo.of HM1.out.mem) HW1.out (by omega)).mono ?_
        rw [HT2.out]
        rintro e w6 ⟨nv2, rfl, hO, hM, hW⟩
        have HM2 := Lib.hid (HM1.out.call hO hM.mem)
        have HW2 := Lib.hid hW
        clear hO hM hW HM1 HW1
        have d3 : w6.cell? ⟨gx, 3, none⟩ = some (.int .i64 2) := (HX0.out.only HM2.out.only id).cell_ (i := 3) rfl
        go_wp2_with fail
        clear d3
        rw [show (40 : Int) + 8 * (k : Int) = ((40 + 8 * k : Nat) : Int) by push_cast; rfl]
        refine (alone_any (some ⟨b, 0, none⟩) A' c' k a2 2 (40 + 8 * k) _ _ (Memo.of HM2.out.mem) HW2.out (by omega)).mono ?_
        rw [HT3.out]
        rintro e w7 ⟨nv3, rfl, hO, hM, hW⟩
        have HM3 := Lib.hid (HM2.out.call hO hM.mem)
        have HW3 := Lib.hid hW
        clear hO hM hW HM2 HW2
        have d2 : w7.cell? ⟨gx, 2, none⟩ = some (.int .i64 2) := (HX0.out.only HM3.out.only id).cell_ (i := 2) rfl
        have HOF := Lib.hid ((HOR.out.trans HO0.out).trans HM3.out.only)
        go_wp2
        go_roundw
        case rel => exact ⟨3 + 1, by omega, rfl, HOF.out⟩
        case measure => simp [intOf]
    · obtain rfl : i = 4 := by omega
      go_wp2_with fail
      refine (awake_any _).mono ?_
      rintro e w9 ⟨rfl, hO⟩
      have HO9 := Lib.hid ((HO.out.trans HOR.out).trans hO)
      clear hO
      go_wp2
      go_ret
      exact ⟨rfl, HO9.out⟩
end Go.Proofs.Ytkkldcggbekleaa
set_option linter.unusedVariables false
set_option linter.unusedSimpArgs false
namespace Go.Proofs.Ytkkldcggbekleaa
open Go.RowKit
theorem stuck_any (p A : Option Addr) (cp : Nat) (xs : List Int) (n mode i s : Int) (w : World) (h : Memo w p A cp xs) :
    Calls Try.prog 35 #[.pointer p, .agg #[.int .i64 n], .int .i64 mode, .int .i64 i, .agg #[.int .i64 s]] w fun e w' =>
      e = .returned (.bool (stuckB xs n mode i s)) ∧ Only (At A) w w' ∧ Memo w' p A cp xs := by
  have e0 := ((Only.refl (At A) w).alloc (Obj.cells #[Value.int IntKind.i64 n] 57)).alloc (Obj.cells #[Value.int IntKind.i64 s] 51)
  have e1 := ((Only.refl Nil w).alloc (Obj.cells #[Value.int IntKind.i64 n] 57)).alloc (Obj.cells #[Value.int IntKind.i64 s] 51)
  have HH := Lib.hid (h.keep e1)
  have HO := Lib.hid e0
  clear h e0 e1
  by_cases h2 : mode = 2
  · by_cases h3 : s = 3
    · have hs : stuckB xs n mode i s = !hasP xs n i := by rw [h2, h3]; rfl
      rw [hs]
      clear hs
      subst h2 h3
      go_enter Try.func35, Try.ntmps35
      go_wp2_with fail
      refine (has_any p A cp xs n i _ HH.out).mono ?_
      rintro e w2 ⟨rfl, hO, hM⟩
      have HS := Lib.hid (HO.out.trans hO)
      have HM := Lib.hid hM
      clear hO hM
      go_wp2
      go_ret
      exact ⟨rfl, HS.out, HM.out⟩
    · have hs : stuckB xs n mode i s = false := by unfold stuckB; rw [beq_eq_false_iff_ne.2 h3, Bool.and_false, Bool.false_and]
      rw [hs]
      clear hs
      subst h2
      have h3' := beq_eq_false_iff_ne.2 h3
      go_enter Try.func35, Try.ntmps35
      go_wp2
      go_ret
      exact ⟨rfl, HO.out, HH.out⟩
  · have hs : stuckB xs n mode i s = false := by unfold stuckB; rw [beq_eq_false_iff_ne.2 h2, Bool.false_and, Bool.false_and]
    rw [hs]
    clear hs
    have h2' := beq_eq_false_iff_ne.2 h2
    go_enter Try.func35, Try.ntmps35
    go_wp2
    go_ret
    exact ⟨rfl, HO.out, HH.out⟩
end Go.Proofs.Ytkkldcggbekleaa
set_option linter.unusedVariables false
set_option linter.unusedSimpArgs false
namespace Go.Proofs.Ytkkldcggbekleaa
open Go.RowKit
theorem stuckL_any (p A : Option Addr) (cp : Nat) (nv : Value) (r : LS) (w : World) (h : Memo w p A cp r.xs) :
    Calls Try.prog 26 #[.agg (r.cells (.pointer p) nv)] w fun e w' => e = .returned (.bool r.stuck) ∧ Only (At A) w w' ∧ Memo w' p A cp r.xs := by
  obtain ⟨n, mode, task, op, line, a, b, s, ⟨on, kc, ki, hit⟩, ret, ⟨ak, ac, ax, ay, ao⟩, ns, xs⟩ := r
  dsimp only [LS.cells, LS.stuck] at h ⊢
  have e0 := (Only.refl Nil w).alloc (.cells #[.pointer p, .int .i64 n, .int .i64 mode, .int .i64 task, .int .i64 op, .int .i64 line, .int .u32 a, .int .u32 b, .int .i64 s, .bool on, .int .i64 kc, .int .i64 ki, .bool hit, .int .i64 ret, .int .i64 ak, .int .i64 ac, .int .u32 ax, .int .u32 ay, .int .u32 ao, nv] 61)
  have HR := Lib.hid (Row.new w 61 #[.pointer p, .int .i64 n, .int .i64 mode, .int .i64 task, .int .i64 op, .int .i64 line, .int .u32 a, .int .u32 b, .int .i64 s, .bool on, .int .i64 kc, .int .i64 ki, .bool hit, .int .i64 ret, .int .i64 ak, .int .i64 ac, .int .u32 ax, .int .u32 ay, .int .u32 ao, nv])
  have HM := Lib.hid (h.keep e0)
  have HO := Lib.hid (e0.mono (T := At A) (fun _ _ h => h.elim))
  clear h e0
  cases on
  · go_enter Try.func26, Try.ntmps26
    go_upto_region 1 with (fail)
    generalize w.alloc (.cells #[.pointer p, .int .i64 n, .int .i64 mode, .int .i64 task, .int .i64 op, .int .i64 line, .int .u32 a, .int .u32 b, .int .i64 s, .bool false, .int .i64 kc, .int .i64 ki, .bool hit, .int .i64 ret, .int .i64 ak, .int .i64 ac, .int .u32 ax, .int .u32 ay, .int .u32 ao, nv] 61) = w1 at *
    generalize w.heap.size = g at *
    have a0 : w1.cell? ⟨g, 0, none⟩ = some (.pointer p) := HR.out.cell_ (i := 0) rfl
    have a1 : w1.cell? ⟨g, 1, none⟩ = some (.int .i64 n) := HR.out.cell_ (i := 1) rfl
    have a2 : w1.cell? ⟨g, 2, none⟩ = some (.int .i64 mode) := HR.out.cell_ (i := 2) rfl
    have a3 : w1.cell? ⟨g, 3, none⟩ = some (.int .i64 task) := HR.out.cell_ (i := 3) rfl
    have a8 : w1.cell? ⟨g, 8, none⟩ = some (.int .i64 s) := HR.out.cell_ (i := 8) rfl
    have a9 : w1.cell? ⟨g, 9, none⟩ = some (.bool false) := HR.out.cell_ (i := 9) rfl
    go_wp2_with fail
    clear a0 a1 a2 a3 a8 a9
    refine (stuck_any p A cp xs n mode task s _ HM.out).mono ?_
    rintro e w2 ⟨rfl, hO, hM⟩
    have HM2 := Lib.hid hM
    have HO2 := Lib.hid (HO.out.trans hO)
    clear hO hM
    go_wp2
    go_ret
    exact ⟨ret_bool (by rfl), HO2.out, HM2.out⟩
  · go_enter Try.func26, Try.ntmps26
    go_upto_region 1 with (fail)
    generalize w.alloc (.cells #[.pointer p, .int .i64 n, .int .i64 mode, .int .i64 task, .int .i64 op, .int .i64 line, .int .u32 a, .int .u32 b, .int .i64 s, .bool true, .int .i64 kc, .int .i64 ki, .bool hit, .int .i64 ret, .int .i64 ak, .int .i64 ac, .int .u32 ax, .int .u32 ay, .int .u32 ao, nv] 61) = w1 at *
    generalize w.heap.size = g at *
    have a9 : w1.cell? ⟨g, 9, none⟩ = some (.bool true) := HR.out.cell_ (i := 9) rfl
    go_wp2
    go_ret
    exact ⟨ret_bool (by rfl), HO.out, HM.out⟩
end Go.Proofs.Ytkkldcggbekleaa
set_option linter.unusedVariables false
set_option linter.unusedSimpArgs false
namespace Go.Proofs.Ytkkldcggbekleaa
open Go.RowKit
def LS.AB (r : LS) : Prop := 0 ≤ r.a ∧ r.a < 4294967296
structure MatchP (L : List (Nat × TypeId × Array Value)) (w0 : World) (X GL GH : Nat) (B : Nat → Nat) (p A : Option Addr) (cp k : Nat) (m : MV) (W : World) : Prop where
  x : ∃ cl, Row W X 49 #[.slice (some ⟨GL, 0, none⟩) k cl, .slice (some ⟨GH, 0, none⟩) k k]
  l : ∃ cs, Row W GL 62 cs ∧ ∀ i, i < k → cs[i]? = some (.pointer (some ⟨B i, 0, none⟩))
  h : ∃ cs, Row W GH 3 cs ∧ ∀ i, i < k → cs[i]? = some (.int .i64 (m.hold i))
  run : ∀ i, i < k → ∃ nv, RunQ W (B i) p A cp nv (m.at i)
  inj : ∀ i j, i < k → j < k → B i = B j → i = j
  memo : Memo W p A cp m.xs
  words : Words m.xs
  only : Only Nil w0 W
  new : ∀ j, (j = GH ∨ At A j ∨ ∃ i, i < k ∧ j = B i) → w0.heap.size ≤ j
  side : RowsL W L
  sideT : ∀ x ∈ L, Aside x.2.1 ∧ x.2.1 ≠ 3
  ab : ∀ i, i < k → (m.rs i).AB
section
variable {L : List (Nat × TypeId × Array Value)} {w0 W W' : World} {X GL GH : Nat} {B : Nat → Nat} {p A : Option Addr} {cp k : Nat} {m : MV} {t : Nat} {r' : LS} {nv : Value} {v : Int}
theorem RunQ.aside {w w' : World} {b : Nat} {p A : Option Addr} {cp : Nat} {nv : Value} {r : LS} {g : Nat} {t : TypeId} {cs : Array Value} (h : RunQ w b p A cp nv r) (hg : Row w g t cs) (ho : Only (TurnB b A) w w') (ht : Aside t) : Row w' g t cs :=
  hg.only ho (fun e => by
    rcases e with e | e
    · exact row_ne hg h.row ht.1 e
    · exact memo_not h.memo hg ht.2.1 ht.2.2 (.inr e))
theorem aside_m : Aside 49 := ⟨by decide, by decide, by decide⟩
theorem aside_pp : Aside 62 := ⟨by decide, by decide, by decide⟩
theorem aside_ii : Aside 3 := ⟨by decide, by decide, by decide⟩
theorem MatchP.ran (h : MatchP L w0 X GL GH B p A cp k m W) (ht : t < k) (ho : Only (TurnB (B t) A) W W') (hq : RunQ W' (B t) p A cp nv r') (hw : Words r'.xs) (hab : r'.AB) : MatchP L w0 X GL GH B p A cp k (m.setR t r') W' := by
  obtain ⟨nv0, q0⟩ := h.run t ht
  refine ⟨?_, ?_, ?_, fun i hi => ?_, h.inj, hq.memo, hw, h.only.step ho (fun j hj e => ?_), h.new, fun x hx => q0.aside (h.side x hx) ho (h.sideT x hx).1, h.sideT, fun i hi => by
    show (upd m.rs t r' i).AB
    by_cases e : i = t
    · subst e; rw [upd_same]; exact hab
    · rw [upd_other _ _ e]; exact h.ab i hi⟩
  · obtain ⟨cl, e⟩ := h.x
    exact ⟨cl, q0.aside e ho aside_m⟩
  · obtain ⟨cs, e, e2⟩ := h.l
    exact ⟨cs, q0.aside e ho aside_pp, e2⟩
  · obtain ⟨cs, e, e2⟩ := h.h
    exact ⟨cs, q0.aside e ho aside_ii, e2⟩
  · by_cases e : i = t
    · subst e
      rw [at_setR]
      exact ⟨nv, hq⟩
    · obtain ⟨nvi, qi⟩ := h.run i hi
      rw [at_setR_other e]
      refine ⟨nvi, qi.row.only ho (fun e2 => ?_), hq.memo⟩
      rcases e2 with e2 | e2
      · exact e (h.inj i t hi ht e2)
      · exact qi.far (.inr e2) rfl
  · have := h.new j (by rcases e with e | e; exact .inr (.inr ⟨t, ht, e⟩); exact .inr (.inl e))
    omega
theorem MatchP.same (h : MatchP L w0 X GL GH B p A cp k m W) (ho : Only (At A) W W') (hm : Memo W' p A cp m.xs) : MatchP L w0 X GL GH B p A cp k m W' := by
  refine ⟨?_, ?_, ?_, fun i hi => ?_, h.inj, hm, h.words, h.only.step ho (fun j hj e => ?_), h.new, fun x hx => (h.side x hx).only ho (fun e2 => memo_not h.memo (h.side x hx) (h.sideT x hx).1.2.1 (h.sideT x hx).1.2.2 (.inr e2)), h.sideT, h.ab⟩
  · obtain ⟨cl, e⟩ := h.x
    exact ⟨cl, e.only ho (fun e2 => memo_not h.memo e aside_m.2.1 aside_m.2.2 (.inr e2))⟩
  · obtain ⟨cs, e, e2⟩ := h.l
    exact ⟨cs, e.only ho (fun e2 => memo_not h.memo e aside_pp.2.1 aside_pp.2.2 (.inr e2)), e2⟩
  · obtain ⟨cs, e, e2⟩ := h.h
    exact ⟨cs, e.only ho (fun e2 => memo_not h.memo e aside_ii.2.1 aside_ii.2.2 (.inr e2)), e2⟩
  · obtain ⟨nvi, qi⟩ := h.run i hi
    exact ⟨nvi, qi.row.only ho (fun e2 => qi.far (.inr e2) rfl), hm⟩
  · have := h.new j (.inr (.inl e))
    omega
theorem MatchP.keep (h : MatchP L w0 X GL GH B p A cp k m W) (ho : Only Nil W W') : MatchP L w0 X GL GH B p A cp k m W' := h.same (ho.mono (fun _ _ h => h.elim)) (h.memo.keep ho)
theorem MatchP.held (h : MatchP L w0 X GL GH B p A cp k m W) (ht : t < k) (v : Int) : MatchP L w0 X GL GH B p A cp k (m.setH t v) (W.setCell ⟨GH, t, none⟩ (.int .i64 v)) := by
  obtain ⟨cs, hh, hc⟩ := h.h
  have ho := (Only.refl (· = GH) W).setCell (p := ⟨GH, t, none⟩) (.inr rfl) (.int .i64 v)
  have hsz : t < cs.size := by have := hc t ht; exact (Array.getElem?_eq_some_iff.1 this).1
  refine ⟨?_, ?_, ⟨_, hh.set t (.int .i64 v), fun i hi => ?_⟩, fun i hi => ?_, h.inj, h.memo.far ho (fun j hj e => ?_), h.words, h.only.setCell (.inl (h.new GH (.inl rfl))) _, h.new, fun x hx => (h.side x hx).only ho (fun e2 => row_ne (h.side x hx) hh (h.sideT x hx).2 e2), h.sideT, h.ab⟩
  · obtain ⟨cl, e⟩ := h.x
    exact ⟨cl, e.only ho (fun e2 => row_ne e hh (by decide) e2)⟩
  · obtain ⟨cs', e, e2⟩ := h.l
    exact ⟨cs', e.only ho (fun e2 => row_ne e hh (by decide) e2), e2⟩
  · show (cs.setIfInBounds t _)[i]? = some (.int .i64 (upd m.hold t v i))
    by_cases e : i = t
    · subst e
      rw [upd_same, Array.getElem?_setIfInBounds_self]
      simp [hsz]
    · rw [upd_other _ _ e, Array.getElem?_setIfInBounds_ne (Ne.symm e)]
      exact hc i hi
  · obtain ⟨nvi, qi⟩ := h.run i hi
    exact ⟨nvi, qi.row.only ho (fun e2 => row_ne qi.row hh (by decide) e2), h.memo.far ho (fun j hj e => memo_not h.memo hh (by decide) (by decide) (by subst e; exact hj))⟩
  · exact memo_not h.memo hh (by decide) (by decide) (by subst e; exact hj)
theorem MatchP.beside {g : Nat} {ty : TypeId} {cs : Array Value} (h : MatchP L w0 X GL GH B p A cp k m W) (hr : Row W g ty cs) (h1 : Aside ty) (h2 : ty ≠ 3) : MatchP ((g, ty, cs) :: L) w0 X GL GH B p A cp k m W :=
  ⟨h.x, h.l, h.h, h.run, h.inj, h.memo, h.words, h.only, h.new, h.side.cons hr, fun x hx => by
    rcases List.mem_cons.1 hx with rfl | hx
    · exact ⟨h1, h2⟩
    · exact h.sideT x hx, h.ab⟩
def frameW (W : World) (b : Nat) (op : Int) : World :=
  (((((((((W.setCell ⟨b, 4, none⟩ (.int .i64 op)).setCell ⟨b, 5, none⟩ (.int .i64 0)).setCell ⟨b, 6, none⟩ (.int .u32 0)).setCell ⟨b, 7, none⟩ (.int .u32 0)).setCell ⟨b, 8, none⟩ (.int .i64 0)).setCell ⟨b, 9, none⟩ (.bool false)).setCell ⟨b, 10, none⟩ (.int .i64 0)).setCell ⟨b, 11, none⟩ (.int .i64 0)).setCell ⟨b, 12, none⟩ (.bool false)).setCell ⟨b, 13, none⟩ (.int .i64 0)
theorem frame_only (W : World) (b : Nat) (op : Int) : Only (· = b) W (frameW W b op) :=
  (((((((((((Only.refl (· = b) W).setCell (p := ⟨b, 4, none⟩) (.inr rfl) _).setCell (p := ⟨b, 5, none⟩) (.inr rfl) _).setCell (p := ⟨b, 6, none⟩) (.inr rfl) _).setCell (p := ⟨b, 7, none⟩) (.inr rfl) _).setCell (p := ⟨b, 8, none⟩) (.inr rfl) _).setCell (p := ⟨b, 9, none⟩) (.inr rfl) _).setCell (p := ⟨b, 10, none⟩) (.inr rfl) _).setCell (p := ⟨b, 11, none⟩) (.inr rfl) _).setCell (p := ⟨b, 12, none⟩) (.inr rfl) _).setCell (p := ⟨b, 13, none⟩) (.inr rfl) _)
theorem frame_row {b : Nat} {r : LS} {hv nv : Value} {ty : TypeId} (h : Row W b ty (r.cells hv nv)) (op : Int) : Row (frameW W b op) b ty ((zeroF r op).cells hv nv) := by
  have e1 : Row (((((W.setCell ⟨b, 4, none⟩ (.int .i64 op)).setCell ⟨b, 5, none⟩ (.int .i64 0)).setCell ⟨b, 6, none⟩ (.int .u32 0)).setCell ⟨b, 7, none⟩ (.int .u32 0)).setCell ⟨b, 8, none⟩ (.int .i64 0)) b ty (({ r with op := op, line := 0, a := 0, b := 0, s := 0 } : LS).cells hv nv) :=
    ((((h.set 4 (.int .i64 op)).set 5 (.int .i64 0)).set 6 (.int .u32 0)).set 7 (.int .u32 0)).set 8 (.int .i64 0)
  have e2 := (set_wake_row e1 wk0).set 13 (.int .i64 0)
  exact e2
theorem MatchP.framed (h : MatchP L w0 X GL GH B p A cp k m W) (ht : t < k) (op : Int) : MatchP L w0 X GL GH B p A cp k (m.setR t (zeroF (m.at t) op)) (frameW W (B t) op) := by
  obtain ⟨nv, q⟩ := h.run t ht
  exact h.ran ht ((frame_only W (B t) op).mono (fun _ _ e => .inl e)) ⟨frame_row q.row op, h.memo.far (frame_only W (B t) op) (fun j hj => q.far hj)⟩ h.words ⟨Int.le_refl _, by show (0 : Int) < _; decide⟩
end
end Go.Proofs.Ytkkldcggbekleaa
