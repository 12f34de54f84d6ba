/- The names of cells: place's. -/
import Derived.Test.YtkflcjnjiiikoaaDoorPlace
import Derived.Test.YtkflcjnjiiikoaaDoorNames
import Derived.Test.YtkflcjnjiiikoaaDoorText
import Derived.Test.YtkflcjnjiiikoaaDoorItoa
import Derived.IntWalk
namespace Go.Proofs.YtkflcjnjiiikoaaDoor
open Go.RowKit

/-- The rows' words; the same with a blank. -/
def rowB : Nat → ByteArray
  | 0 => ⟨#[110, 101, 120, 116]⟩
  | 1 => ⟨#[98, 108, 111, 99, 107, 101, 100]⟩
  | 2 => ⟨#[119, 97, 116, 99, 104]⟩
  | _ => ⟨#[112, 101, 114, 109, 105, 116]⟩
def rowBB : Nat → ByteArray
  | 0 => ⟨#[110, 101, 120, 116, 32]⟩
  | 1 => ⟨#[98, 108, 111, 99, 107, 101, 100, 32]⟩
  | 2 => ⟨#[119, 97, 116, 99, 104, 32]⟩
  | _ => ⟨#[112, 101, 114, 109, 105, 116, 32]⟩
theorem rowB_blank (r : Nat) : rowB r ++ ⟨#[32]⟩ = rowBB r := by
  unfold rowB rowBB
  split <;> rfl
theorem rowBB_size (r : Nat) : (rowBB r).size ≤ 8 := by
  unfold rowBB
  split <;> decide
theorem rowB_size (r : Nat) : (rowB r).size ≤ 8 := by
  unfold rowB
  split <;> decide
theorem digB_size (i : Nat) (h : i < 100) : (digB i).size ≤ 2 := by
  show (Lib.decDigits i).toArray.size ≤ 2
  by_cases h1 : i < 10
  · rw [Lib.decDigits_one h1]; simp
  · rw [Lib.decDigits_two h1 h]; simp

theorem rowName_any (r : Nat) (hr : r < 4) (w : World) :
    Calls Tryd.prog 15 #[.int .i64 r] w fun e w' => e = .returned (.string (rowB r)) ∧ w = w' := by
  have x0 : ∀ W, (Instr.index 43 (.agg #[.string ⟨#[110, 101, 120, 116]⟩, .string ⟨#[98, 108, 111, 99, 107, 101, 100]⟩, .string ⟨#[119, 97, 116, 99, 104]⟩, .string ⟨#[112, 101, 114, 109, 105, 116]⟩]) (.int .i64 0)).run Tryd.prog W = .ok (.string ⟨#[110, 101, 120, 116]⟩) W := fun W => by kernel_rfl
  have x1 : ∀ W, (Instr.index 43 (.agg #[.string ⟨#[110, 101, 120, 116]⟩, .string ⟨#[98, 108, 111, 99, 107, 101, 100]⟩, .string ⟨#[119, 97, 116, 99, 104]⟩, .string ⟨#[112, 101, 114, 109, 105, 116]⟩]) (.int .i64 1)).run Tryd.prog W = .ok (.string ⟨#[98, 108, 111, 99, 107, 101, 100]⟩) W := fun W => by kernel_rfl
  have x2 : ∀ W, (Instr.index 43 (.agg #[.string ⟨#[110, 101, 120, 116]⟩, .string ⟨#[98, 108, 111, 99, 107, 101, 100]⟩, .string ⟨#[119, 97, 116, 99, 104]⟩, .string ⟨#[112, 101, 114, 109, 105, 116]⟩]) (.int .i64 2)).run Tryd.prog W = .ok (.string ⟨#[119, 97, 116, 99, 104]⟩) W := fun W => by kernel_rfl
  have x3 : ∀ W, (Instr.index 43 (.agg #[.string ⟨#[110, 101, 120, 116]⟩, .string ⟨#[98, 108, 111, 99, 107, 101, 100]⟩, .string ⟨#[119, 97, 116, 99, 104]⟩, .string ⟨#[112, 101, 114, 109, 105, 116]⟩]) (.int .i64 3)).run Tryd.prog W = .ok (.string ⟨#[112, 101, 114, 109, 105, 116]⟩) W := fun W => by kernel_rfl
  rcases (show r = 0 ∨ r = 1 ∨ r = 2 ∨ r = 3 by omega) with rfl | rfl | rfl | rfl
  all_goals
    go_enter Tryd.func15, Tryd.ntmps15
    go_wp2
    go_ret
    exact ⟨rfl, rfl⟩

theorem itoa_small (i : Nat) (hi : i < 100) (w : World) :
    Calls Tryd.prog 16 #[.int .i64 i] w fun e w' => e = .returned (.string (digB i)) ∧ w' = w := Tryd.strconv_Itoa_small i hi w

set_option maxHeartbeats 1000000 in
theorem name_task (k n c : Int) (r i : Nat) (w : World) (hk : 1 ≤ k ∧ k ≤ 6) (hn : 1 ≤ n ∧ n ≤ 64) (hr : r < 4) (hi : (i : Int) < n) (hc : c = 8 + r * n + i) :
    Calls Tryd.prog 5 #[.agg #[.int .i64 n], .int .i64 k, .int .i64 c] w fun e w' => e = .returned (.string (rowBB r ++ digB i)) ∧ Only Nil w w' := by
  have hrn : (r : Int) * n ≤ 3 * n := Int.mul_le_mul_of_nonneg_right (by omega) (by omega)
  have hrn0 : 0 ≤ (r : Int) * n := Int.mul_nonneg (by omega) (by omega)
  have hd : (c - 8) / n = r := by
    rw [hc, show 8 + (r : Int) * n + i - 8 = i + r * n by omega, Int.add_mul_ediv_right _ _ (by omega), Int.ediv_eq_zero_of_lt (by omega) hi]; omega
  have hm : (c - 8) % n = i := by
    rw [hc, show 8 + (r : Int) * n + i - 8 = i + r * n by omega, Int.add_mul_emod_self_right, Int.emod_eq_of_lt (by omega) hi]
  have hz : sizeI n = 8 + 4 * n := if_pos hn
  have c1 : 8 ≤ c := by omega
  have c2 : c < sizeI n := by omega
  have c3 : c ≤ 300 := by omega
  have i64 : i < 100 := by omega
  have HK := Lib.hid hk
  have HD := Lib.hid hd
  have HM := Lib.hid hm
  have HI := Lib.hid i64
  have HR := Lib.hid hr
  obtain ⟨n1, n2⟩ := hn
  have HZ := Lib.hid hz
  clear hk hd hm i64 hr hrn hrn0 hc hi hz
  have hq : IntKind.i64.wrap ((c - 8).tdiv n) = r := by
    rw [IntWalk.i64_quo (c - 8) n ⟨by omega, by omega, by omega⟩]; exact HD.out
  have hr : (c - 8).tmod n = i := by
    rw [Int.tmod_eq_emod_of_nonneg (by omega)]; exact HM.out
  have n0 : ¬ n = 0 := by omega
  have HSQ := Lib.hid (And.intro hq hr)
  clear hq hr
  generalize hsz : sizeI n = sz at *
  have HSZ := Lib.hid hsz
  clear hsz
  have qT : ∀ (w : World) (a : Option Addr) (n c n' c' : Nat), (binOp .eql 36 (.slice a n c) (.slice none n' c')).run Tryd.prog w = .ok (.bool a.isNone) w := fun w a n c n' c' => Lib.run_eql_slice_nil w _ _ a n c n' c' Tryd.underlying36
  go_enter Tryd.func5, Tryd.ntmps5
  go_wp2_with fail
  refine (ownNames_yes k _ HK.out).mono ?_
  intro e w1 hF
  obtain ⟨gn, rfl, hgn, hR, hO⟩ := hF
  generalize (ownV k).size = L at *
  have HO1 := Lib.hid (((Only.refl Nil w).alloc (.cells #[.int .i64 n] 23)).trans hO)
  have HR1 := Lib.hid ((Row.new w 23 #[.int .i64 n]).only hO id)
  clear hR hO hgn
  have hcell : w1.cell? ⟨w.heap.size, 0, none⟩ = some (.int .i64 n) := HR1.out.cell_ (i := 0) rfl
  go_wp2_with fail
  refine (size_any n _).mono ?_
  rw [HSZ.out]
  rintro e w2 ⟨rfl, hO⟩
  have HO2 := Lib.hid (HO1.out.trans hO)
  have HR2 := Lib.hid (HR1.out.only hO id)
  clear hO hcell
  have hcell : w2.cell? ⟨w.heap.size, 0, none⟩ = some (.int .i64 n) := HR2.out.cell_ (i := 0) rfl
  go_wp2_with fail
  have q1 : IntKind.i64.wrap (c - 8) = c - 8 := IntWalk.i64_in _ (by omega)
  obtain ⟨hq, hm⟩ := HSQ.out
  have s1 := rowB_size r
  have s2 := digB_size i HI.out
  have s3 := rowBB_size r
  have hb := rowB_blank r
  go_quiet ((first | (go_at_call 15; exact Calls.quiet_of_same ((rowName_any r HR.out _).mono fun _ _ h => ⟨h.1, h.2.symm⟩)) | (go_at_call 16; exact Calls.quiet_of_same (itoa_small i HI.out _))))
  go_wp2
  go_ret
  exact ⟨rfl, HO2.out.drewN _⟩


/-- One of the lock's own cells. -/
theorem name_own (k n : Int) (c : Nat) (s : ByteArray) (w : World) (hk : 1 ≤ k ∧ k ≤ 6) (hn : 1 ≤ n ∧ n ≤ 64) (hs : (ownV k)[c]? = some (.string s)) :
    Calls Tryd.prog 5 #[.agg #[.int .i64 n], .int .i64 k, .int .i64 c] w fun e w' => e = .returned (.string s) ∧ Only Nil w w' := by
  have hcL : c < (ownV k).size := (Array.getElem?_eq_some_iff.1 hs).1
  have hL5 := own_size k hk
  have c5 : c < 5 := by omega
  have hz : sizeI n = 8 + 4 * n := if_pos hn
  have c1 : ¬ 8 ≤ (c : Int) := by omega
  have c2 : (c : Int) < sizeI n := by omega
  have c3 : (c : Int) < ((ownV k).size : Int) := by omega
  have HK := Lib.hid hk
  have HS := Lib.hid hs
  clear hk hn hz hs hL5 hcL
  generalize hsz : sizeI n = sz at *
  have HSZ := Lib.hid hsz
  clear hsz
  have qT : ∀ (w : World) (a : Option Addr) (n c n' c' : Nat), (binOp .eql 36 (.slice a n c) (.slice none n' c')).run Tryd.prog w = .ok (.bool a.isNone) w := fun w a n c n' c' => Lib.run_eql_slice_nil w _ _ a n c n' c' Tryd.underlying36
  go_enter Tryd.func5, Tryd.ntmps5
  go_wp2_with fail
  refine (ownNames_yes k _ HK.out).mono ?_
  intro e w1 hF
  obtain ⟨gn, rfl, hgn, hR, hO⟩ := hF
  generalize hLe : (ownV k).size = L at *
  have HLE := Lib.hid hLe
  have HO1 := Lib.hid (((Only.refl Nil w).alloc (.cells #[.int .i64 n] 23)).trans hO)
  have HR1 := Lib.hid ((Row.new w 23 #[.int .i64 n]).only hO id)
  have HRN := Lib.hid hR
  clear hLe hR hO hgn
  have hcell : w1.cell? ⟨w.heap.size, 0, none⟩ = some (.int .i64 n) := HR1.out.cell_ (i := 0) rfl
  go_wp2_with fail
  refine (size_any n _).mono ?_
  rw [HSZ.out]
  rintro e w2 ⟨rfl, hO⟩
  have HO2 := Lib.hid (HO1.out.trans hO)
  have HRN2 := Lib.hid (HRN.out.only hO id)
  clear hO hcell
  have hcc := HRN2.out.cell_ HS.out
  go_wp2
  go_ret
  exact ⟨rfl, HO2.out⟩

/-- A cell of no name. -/
theorem name_none_kind (k n c : Int) (w : World) (hw : (Lit.int .i64 k).wf = true) (hk : ¬ (1 ≤ k ∧ k ≤ 6)) :
    Calls Tryd.prog 5 #[.agg #[.int .i64 n], .int .i64 k, .int .i64 c] w fun e w' => e = .returned (.string ⟨#[]⟩) ∧ Only Nil w w' := by
  have HK := Lib.hid hk
  have HW := Lib.hid hw
  clear hk hw
  have qT : ∀ (w : World) (a : Option Addr) (n c n' c' : Nat), (binOp .eql 36 (.slice a n c) (.slice none n' c')).run Tryd.prog w = .ok (.bool a.isNone) w := fun w a n c n' c' => Lib.run_eql_slice_nil w _ _ a n c n' c' Tryd.underlying36
  go_enter Tryd.func5, Tryd.ntmps5
  go_wp2_with fail
  refine (ownNames_no k _ HW.out HK.out).mono ?_
  rintro e w1 ⟨rfl, hO⟩
  have HO1 := Lib.hid (((Only.refl Nil w).alloc (.cells #[.int .i64 n] 23)).trans hO)
  clear hO
  go_wp2
  go_ret
  exact ⟨rfl, HO1.out⟩

theorem name_none_under (k n c : Int) (w : World) (hk : 1 ≤ k ∧ k ≤ 6) (hc : c < 0) :
    Calls Tryd.prog 5 #[.agg #[.int .i64 n], .int .i64 k, .int .i64 c] w fun e w' => e = .returned (.string ⟨#[]⟩) ∧ Only Nil w w' := by
  have HK := Lib.hid hk
  clear hk
  have qT : ∀ (w : World) (a : Option Addr) (n c n' c' : Nat), (binOp .eql 36 (.slice a n c) (.slice none n' c')).run Tryd.prog w = .ok (.bool a.isNone) w := fun w a n c n' c' => Lib.run_eql_slice_nil w _ _ a n c n' c' Tryd.underlying36
  go_enter Tryd.func5, Tryd.ntmps5
  go_wp2_with fail
  refine (ownNames_yes k _ HK.out).mono ?_
  intro e w1 hF
  obtain ⟨gn, rfl, hgn, hR, hO⟩ := hF
  generalize hLe : (ownV k).size = L at *
  have HLE := Lib.hid hLe
  have HO1 := Lib.hid (((Only.refl Nil w).alloc (.cells #[.int .i64 n] 23)).trans hO)
  have HR1 := Lib.hid ((Row.new w 23 #[.int .i64 n]).only hO id)
  have HRN := Lib.hid hR
  clear hLe hR hO hgn
  have hcell : w1.cell? ⟨w.heap.size, 0, none⟩ = some (.int .i64 n) := HR1.out.cell_ (i := 0) rfl
  go_wp2
  go_ret
  exact ⟨rfl, HO1.out⟩

theorem name_none_over (k n c : Int) (w : World) (hk : 1 ≤ k ∧ k ≤ 6) (hc : 0 ≤ c) (hs : sizeI n ≤ c) :
    Calls Tryd.prog 5 #[.agg #[.int .i64 n], .int .i64 k, .int .i64 c] w fun e w' => e = .returned (.string ⟨#[]⟩) ∧ Only Nil w w' := by
  have HK := Lib.hid hk
  clear hk
  generalize hsz : sizeI n = sz at *
  have HSZ := Lib.hid hsz
  clear hsz
  have qT : ∀ (w : World) (a : Option Addr) (n c n' c' : Nat), (binOp .eql 36 (.slice a n c) (.slice none n' c')).run Tryd.prog w = .ok (.bool a.isNone) w := fun w a n c n' c' => Lib.run_eql_slice_nil w _ _ a n c n' c' Tryd.underlying36
  go_enter Tryd.func5, Tryd.ntmps5
  go_wp2_with fail
  refine (ownNames_yes k _ HK.out).mono ?_
  intro e w1 hF
  obtain ⟨gn, rfl, hgn, hR, hO⟩ := hF
  generalize hLe : (ownV k).size = L at *
  have HLE := Lib.hid hLe
  have HO1 := Lib.hid (((Only.refl Nil w).alloc (.cells #[.int .i64 n] 23)).trans hO)
  have HR1 := Lib.hid ((Row.new w 23 #[.int .i64 n]).only hO id)
  have HRN := Lib.hid hR
  clear hLe hR hO hgn
  have hcell : w1.cell? ⟨w.heap.size, 0, none⟩ = some (.int .i64 n) := HR1.out.cell_ (i := 0) rfl
  go_wp2_with fail
  refine (size_any n _).mono ?_
  rw [HSZ.out]
  rintro e w2 ⟨rfl, hO⟩
  have HO2 := Lib.hid (HO1.out.trans hO)
  have HRN2 := Lib.hid (HRN.out.only hO id)
  clear hO hcell
  go_wp2
  go_ret
  exact ⟨rfl, HO2.out⟩

theorem name_none_gap (k n c : Int) (w : World) (hk : 1 ≤ k ∧ k ≤ 6) (hc : ((ownV k).size : Int) ≤ c) (hs : c < 8) (hn : 1 ≤ n ∧ n ≤ 64) :
    Calls Tryd.prog 5 #[.agg #[.int .i64 n], .int .i64 k, .int .i64 c] w fun e w' => e = .returned (.string ⟨#[]⟩) ∧ Only Nil w w' := by
  have hL5 := own_size k hk
  have hz : sizeI n = 8 + 4 * n := if_pos hn
  have c0 : 0 ≤ c := by omega
  have c1 : ¬ 8 ≤ c := by omega
  have c2 : c < sizeI n := by omega
  have c3 : ¬ c < ((ownV k).size : Int) := by omega
  have HK := Lib.hid hk
  clear hk hn hz hL5 hc hs
  generalize hsz : sizeI n = sz at *
  have HSZ := Lib.hid hsz
  clear hsz
  have qT : ∀ (w : World) (a : Option Addr) (n c n' c' : Nat), (binOp .eql 36 (.slice a n c) (.slice none n' c')).run Tryd.prog w = .ok (.bool a.isNone) w := fun w a n c n' c' => Lib.run_eql_slice_nil w _ _ a n c n' c' Tryd.underlying36
  go_enter Tryd.func5, Tryd.ntmps5
  go_wp2_with fail
  refine (ownNames_yes k _ HK.out).mono ?_
  intro e w1 hF
  obtain ⟨gn, rfl, hgn, hR, hO⟩ := hF
  generalize hLe : (ownV k).size = L at *
  have HLE := Lib.hid hLe
  have HO1 := Lib.hid (((Only.refl Nil w).alloc (.cells #[.int .i64 n] 23)).trans hO)
  have HR1 := Lib.hid ((Row.new w 23 #[.int .i64 n]).only hO id)
  have HRN := Lib.hid hR
  clear hLe hR hO hgn
  have hcell : w1.cell? ⟨w.heap.size, 0, none⟩ = some (.int .i64 n) := HR1.out.cell_ (i := 0) rfl
  go_wp2_with fail
  refine (size_any n _).mono ?_
  rw [HSZ.out]
  rintro e w2 ⟨rfl, hO⟩
  have HO2 := Lib.hid (HO1.out.trans hO)
  have HRN2 := Lib.hid (HRN.out.only hO id)
  clear hO hcell
  go_wp2
  go_ret
  exact ⟨rfl, HO2.out⟩
end Go.Proofs.YtkflcjnjiiikoaaDoor
