/- Rounds are the picks that the document says; in each round each task is picked once. -/
import Derived.Test.YtdneicbbnbbffaaDoorScAw
import Derived.Test.YtdneicbbnbbffaaDoorScRR
import Derived.Deep.OwnRows
set_option linter.unusedVariables false
set_option linter.unusedSimpArgs false
namespace Go.Proofs.YtdneicbbnbbffaaDoor
open Go.RowKit
theorem rounds_out (n : Int) (A1 : Option Addr) (T c1 : Nat) (A2 : Option Addr) (m c2 : Nat) (w : World) (hn : n < 1 ∨ 64 < n) :
    Calls Tryd.prog 13 #[.int .i64 n, .slice A1 T c1, .slice A2 m c2] w fun e w' => e = .returned (.slice none 0 0) ∧ w = w' := by
  rcases hn with h | h
  · go_enter Tryd.func13, Tryd.ntmps13
    go_wp2
    go_ret
    exact ⟨rfl, rfl⟩
  · have h1 : ¬ n < 1 := by omega
    go_enter Tryd.func13, Tryd.ntmps13
    go_wp2
    go_ret
    exact ⟨rfl, rfl⟩
theorem rrounds_out (n : Int) (A1 : Option Addr) (T c1 : Nat) (A2 : Option Addr) (m c2 : Nat) (w : World) (hn : n < 1 ∨ 64 < n) :
    Calls Tryd.prog 14 #[.int .i64 n, .slice A1 T c1, .slice A2 m c2] w fun e w' => e = .returned (.slice none 0 0) ∧ w = w' := by
  rcases hn with h | h
  · go_enter Tryd.func14, Tryd.ntmps14
    go_wp2
    go_ret
    exact ⟨rfl, rfl⟩
  · have h1 : ¬ n < 1 := by omega
    go_enter Tryd.func14, Tryd.ntmps14
    go_wp2
    go_ret
    exact ⟨rfl, rfl⟩
/-- Two of a round's tasks are not the same. -/
theorem turn_ne {v : Int} {N i j : Nat} (hij : i < j) (hj : j < N) : (v + (i : Int)) % (N : Int) ≠ (v + (j : Int)) % (N : Int) := fun h => by
  have e1 := Int.mul_ediv_add_emod (v + i) N
  have e2 := Int.mul_ediv_add_emod (v + j) N
  rw [h] at e1
  have e3 : (N : Int) * ((v + j) / N - (v + i) / N) = j - i := by rw [Int.mul_sub]; omega
  generalize (v + (j : Int)) / N - (v + (i : Int)) / N = d at e3
  rcases (show d ≤ 0 ∨ 1 ≤ d by omega) with hd | hd
  · have := Int.mul_nonpos_of_nonneg_of_nonpos (show (0 : Int) ≤ N by omega) hd
    omega
  · have := Int.mul_le_mul_of_nonneg_left hd (show (0 : Int) ≤ N by omega)
    omega
/-- Sixty-four marks. -/
def marks (f : Nat → Bool) : Array Value := ((List.range 64).map fun x => Value.bool (f x)).toArray
theorem marks_at (f : Nat → Bool) {x : Nat} (hx : x < 64) : (marks f)[x]? = some (.bool (f x)) := by
  unfold marks
  rw [List.getElem?_toArray, List.getElem?_map, List.getElem?_range hx]; rfl
theorem marks_set (f : Nat → Bool) {x : Nat} (hx : x < 64) : (marks f).setIfInBounds x (.bool true) = marks fun y => decide (y = x) || f y := by
  apply Array.ext'
  apply List.ext_getElem?
  intro i
  unfold marks
  rw [List.setIfInBounds_toArray]
  simp only [List.getElem?_set, List.length_map, List.length_range, List.getElem?_map]
  by_cases hi : x = i
  · subst hi
    simp [hx]
  · have : ¬ i = x := fun e => hi e.symm
    simp only [if_neg hi]
    by_cases h64 : i < 64
    · rw [List.getElem?_range h64]; simp [this]
    · rw [List.getElem?_eq_none (by simpa using h64)]; rfl
theorem zero_marks (N : Nat) : madeCells #[.bool false] N = ((List.range N).map fun x => Value.bool ((fun _ => false) x)).toArray := by
  apply Array.ext'
  rw [toList_madeCells_one]
  apply List.ext_getElem
  · simp
  · intro i h1 h2
    simp
theorem marks_none : madeCells #[.bool false] 64 = marks (fun _ => false) := zero_marks 64
theorem infoB : (Tryd.prog.info? 4).map (fun i => (i.zero, i.size, i.bytes)) = some (some (.bool false), 1, 1) := by kernel_rfl
def hitF (v : Int) (N j : Nat) : Nat → Bool := fun x => (List.range j).any fun i => decide ((v + (i : Int)) % (N : Int) = x)
theorem hitF_no {v : Int} {N j x : Nat} (hj : j < N) (hx : (v + (j : Int)) % (N : Int) = x) : hitF v N j x = false := by
  unfold hitF
  rw [List.any_eq_false]
  intro i hi
  rw [List.mem_range] at hi
  simp only [decide_eq_true_eq]
  rw [← hx]
  exact turn_ne hi hj
theorem hitF_next {v : Int} {N j x : Nat} (hx : (v + (j : Int)) % (N : Int) = x) : (fun y => decide (y = x) || hitF v N j y) = hitF v N (j + 1) := by
  funext y
  unfold hitF
  rw [List.range_succ, List.any_append, Bool.or_comm]
  congr 1
  simp only [List.any_cons, List.any_nil, Bool.or_false]
  refine decide_eq_decide.2 ⟨fun h => by rw [h]; exact hx, fun h => by have := hx.symm.trans h; omega⟩
theorem hitF_zero (v : Int) (N : Nat) : hitF v N 0 = fun _ => false := rfl
set_option maxRecDepth 100000 in
set_option maxHeartbeats 2000000 in
theorem walk_scriptRounds (n : Int) (A1 : Option Addr) (T c1 : Nat) (ts : List Int) (A2 : Option Addr) (m c2 : Nat) (os : List Int) (W : World) (hn0 : (Lit.int .i64 n).wf = true) (hx : IsRow .u8 W A1 T c1 ts) (hy : IsRow .i64 W A2 m c2 os) (hL : LiesS W) :
    Calls Tryd.prog 5 #[.int .i64 n, .slice A1 T c1, .slice A2 m c2] W fun e W' => e = .returned (.bool true) ∧ Only Nil W W' := by
  have HAW := Lib.hid (fun W' (ho : Only Nil W W') => awake_s W' (hL.only ho))
  clear hL
  have HO3 := Lib.hid (Only.refl Nil W)
  by_cases hT : T ≤ 100
  · have hT' : ¬ (100 : Int) < (T : Int) := by omega
    by_cases hm : m ≤ 20
    · have hm' : ¬ (20 : Int) < (m : Int) := by omega
      clear HO3
      by_cases hn : 1 ≤ n ∧ n ≤ 64
      · obtain ⟨N, rfl⟩ : ∃ N : Nat, n = N := ⟨n.toNat, by omega⟩
        have hN : 1 ≤ N ∧ N ≤ 64 := by omega
        have hwu : ∀ t ∈ ts, 0 ≤ t ∧ t < 256 := fun t ht => wf_u8 (hx.wf t ht)
        have HR1 := Lib.hid (rounds_any N A1 T c1 A2 m c2 ts os W hx.len_ hx.ints hwu hT hy.len_ hy.ints hm N rfl hN)
        have HR2 := Lib.hid (fun W' (ho : Only Nil W W') => rrounds_any N A1 T c1 A2 m c2 ts os W' hx.len_ ((hx.ints.only ho (Nat.le_refl _) (fun _ _ => id)).more ho.size) hwu hT hy.len_ ((hy.ints.only ho (Nat.le_refl _) (fun _ _ => id)).more ho.size) hm N rfl hN)
        have HTL := Lib.hid hx.len_
        have hTN : T * N ≤ 6400 := Nat.le_trans (Nat.mul_le_mul hT hN.2) (by decide)
        have HPI := Lib.hid (fun r j (hj : j < N) => pickAt_in ts os (r := r) hj)
        have HTT := Lib.hid (fun r (hr : r < T) => show 0 ≤ ts.getD r 0 ∧ ts.getD r 0 < 256 by
          have hg : ts.getD r 0 = ts[r]'(by rw [hx.len_]; exact hr) := by simp [List.getD, List.getElem?_eq_getElem (show r < ts.length by rw [hx.len_]; exact hr)]
          rw [hg]; exact hwu _ (List.getElem_mem _))
        have HS := Lib.hid (fun v1 v2 W' h1 h2 => same_pk v1 v2 (roundsL N ts os (T * N)) W' h1 h2 (by rw [roundsL_len]; omega))
        have hmk : ∀ W', (Instr.makeSlice 40 (.int .i64 64) (.int .i64 64)).run Tryd.prog W' = .ok (.slice (some ⟨W'.heap.size, 0, none⟩) 64 64) (W'.alloc (.cells (marks fun _ => false) 4)) := fun W' => by
          have e := run_make_row' (P := Tryd.prog) 40 4 (.bool false) 1 Tryd.underlying40 infoB rfl .i64 .i64 64 (by omega) (by omega) W'
          rw [marks_none] at e
          exact e
        have hn1 : (1 : Int) ≤ N := by omega
        have hn2 : (N : Int) ≤ 64 := by omega
        have HN := Lib.hid hN
        clear hwu hx hy hn hn0 hN
        go_enter Tryd.func5, Tryd.ntmps5
        go_wp2_with fail
        refine HR1.out.mono ?_
        rintro e w1 ⟨v1, rfl, hown, hO⟩
        have HA1 := Lib.hid hown.at
        have HO1 := Lib.hid hO
        clear hown hO HR1
        go_wp2_with fail
        refine (HR2.out _ HO1.out).mono ?_
        rintro e w2 ⟨v2, rfl, hown, hO⟩
        have HA2 := Lib.hid hown.at
        have HA1' := Lib.hid (HA1.out.only hO)
        have HO2 := Lib.hid (HO1.out.trans hO)
        clear hown hO HR2 HA1 HO1
        go_wp2_with fail
        refine (HS.out _ _ _ HA1'.out HA2.out).mono ?_
        rintro e w3 ⟨rfl, hO⟩
        have HO3 := Lib.hid (HO2.out.trans hO)
        have HA := Lib.hid (HA1'.out.only hO)
        clear hO HO2 HS HA1' HA2
        obtain ⟨A, c, rfl, hat⟩ := HA.out
        have HAT := Lib.hid hat
        clear hat HA
        rw [roundsL_len]
        generalize hLL : T * N = LL at *
        have HLL := Lib.hid hLL
        clear hLL
        go_wp2
        go_loopw [8] (fun i wr => ∃ r : Nat, r ≤ T ∧ i = .int .i64 r ∧ Hid (Only Nil w3 wr)) (fun i _ => T - (intOf i).toNat)
        case atStart => exact ⟨0, Nat.zero_le _, rfl, Lib.hid (Only.refl _ _)⟩
        case round =>
          obtain ⟨r, hr, rfl, HO⟩ := hrel
          by_cases hlt : r < T
          · have htr := HTT.out r hlt
            have HPA := Lib.hid (HPI.out r)
            obtain ⟨R, hR⟩ : ∃ R, R = r * N := ⟨_, rfl⟩
            have hRN : (r : Int) * (N : Int) = (R : Int) := by rw [hR]; simp
            have hRN2 : ((r : Int) + 1) * (N : Int) = (R : Int) + (N : Int) := by rw [Int.add_mul, hRN, Int.one_mul]
            have hRL : R + N ≤ LL := by
              rw [hR, ← HLL.out]
              have := Nat.mul_le_mul_right N (show r + 1 ≤ T by omega)
              rw [Nat.add_mul, Nat.one_mul] at this; exact this
            rw [← hR] at HPA
            clear hR
            generalize ts.getD r 0 = v at *
            have hg0 : w3.heap.size ≤ wr.heap.size := HO.out.size
            have HRW := Lib.hid (Row.new wr 4 (marks fun _ => false))
            have HO5 := Lib.hid (HO.out.alloc (.cells (marks fun _ => false) 4))
            go_wp2
            generalize wr.alloc _ = w5 at *
            generalize wr.heap.size = g at *
            clear HO hmk
            go_loopw [10] (fun i wq => ∃ j : Nat, j ≤ N ∧ i = .int .i64 ((R + j : Nat) : Int) ∧ Hid (Row wq g 4 (marks (hitF v N j))) ∧ Hid (Only Nil w3 wq)) (fun i _ => R + N - (intOf i).toNat)
            case atStart => exact ⟨0, Nat.zero_le _, rfl, HRW, HO5⟩
            case round =>
              clear HRW HO5
              obtain ⟨j, hj, rfl, HRW, HO⟩ := hrel
              by_cases hjn : j < N
              · obtain ⟨x, hx⟩ : ∃ x : Nat, (v + (j : Int)) % (N : Int) = x := ⟨((v + (j : Int)) % (N : Int)).toNat, by have := Int.emod_nonneg (v + (j : Int)) (show (N : Int) ≠ 0 by omega); omega⟩
                have hxN : x < N := by have := Int.emod_lt_of_pos (v + (j : Int)) (show (0 : Int) < N by omega); omega
                have hx64 : (x : Int) < 64 := by omega
                obtain ⟨b, q, rfl, hb, hc, _⟩ := HAT.out (R + j) (pickAt N ts os (R + j)) (by
                  unfold roundsL
                  rw [List.getElem?_map, List.getElem?_range (by omega)]; rfl)
                rw [HPA.out j hjn] at hc
                simp only at hc
                rw [hx] at hc
                have hcl := (HO.out.cell (p := ⟨b, q + (R + j) * 2, none⟩) hb id).trans hc
                have hfl := hitF_no hjn hx
                have hmk := HRW.out.cell_ (marks_at (hitF v N j) (show x < 64 by omega))
                rw [hfl] at hmk
                have hfz := HRW.out.frozen x
                have HNX := Lib.hid (show Row (wr.setCell ⟨g, x, none⟩ (.bool true)) g 4 (marks (hitF v N (j + 1))) by
                  rw [← hitF_next hx, ← marks_set (hitF v N j) (show x < 64 by omega)]; exact HRW.out.set x _)
                have HO6 := Lib.hid (HO.out.setCell (p := ⟨g, x, none⟩) (.inl hg0) (.bool true))
                have hkL : ((R + j : Nat) : Int) < (LL : Int) := by omega
                have hkN : ((R + j : Nat) : Int) < (R : Int) + (N : Int) := by omega
                clear hc hfl hx
                obtain ⟨K, hK⟩ : ∃ K, K = R + j := ⟨_, rfl⟩
                have HK := Lib.hid hK
                rw [← hK] at hcl hkL hkN ⊢
                clear hK
                go_wp2
                have hk := HK.out
                exact ⟨⟨j + 1, by omega, congrArg (Value.int .i64) (show (K : Int) + 1 = ((R + (j + 1) : Nat) : Int) by omega), HNX, HO6⟩, by show R + N - ((K : Int) + 1).toNat < R + N - (K : Int).toNat; omega⟩
              · have hkN : ¬ ((R + j : Nat) : Int) < (R : Int) + (N : Int) := by omega
                go_wp2
                exact ⟨⟨r + 1, by omega, by go_num, HO⟩, by simp [intOf]; omega⟩
          · have hrT : r = T := by omega
            have HO3 := Lib.hid (HO3.out.trans HO.out)
            subst hrT
            go_wp2_with fail
            refine (HAW.out _ HO3.out).mono ?_
            rintro e w4 ⟨rfl, hO⟩
            have HO4 := Lib.hid (HO3.out.trans hO)
            clear hO
            go_wp2
            go_ret
            exact ⟨rfl, HO4.out⟩
      · have hn' : n < 1 ∨ 64 < n := by omega
        have HR1 := Lib.hid (rounds_out n A1 T c1 A2 m c2 W hn')
        have HR2 := Lib.hid (fun W' => rrounds_out n A1 T c1 A2 m c2 W' hn')
        have HS := Lib.hid (fun W' => same_pk (.slice none 0 0) (.slice none 0 0) [] W' ⟨none, 0, rfl, fun j p hj => by simp at hj⟩ ⟨none, 0, rfl, fun j p hj => by simp at hj⟩ (by decide))
        clear hn hn0 hx hy
        rcases hn' with hn' | hn'
        · skip
          go_enter Tryd.func5, Tryd.ntmps5
          go_wp2_with fail
          refine HR1.out.mono ?_
          rintro e w1 ⟨rfl, rfl⟩
          go_wp2_with fail
          refine (HR2.out _).mono ?_
          rintro e w2 ⟨rfl, rfl⟩
          go_wp2_with fail
          refine (HS.out _).mono ?_
          rintro e w3 ⟨rfl, hO⟩
          have HO0 := Lib.hid hO
          clear hO
          go_wp2
          go_loopw [8] (fun i wr => i = .int .i64 0 ∧ Hid (Only Nil W wr)) (fun _ _ => 0)
          case atStart => exact ⟨rfl, HO0⟩
          case round =>
            obtain ⟨rfl, HO3⟩ := hrel
            go_wp2_with fail
            refine (HAW.out _ HO3.out).mono ?_
            rintro e w4 ⟨rfl, hO⟩
            have HO4 := Lib.hid (HO3.out.trans hO)
            clear hO
            go_wp2
            go_ret
            exact ⟨rfl, HO4.out⟩
        · have hn1 : ¬ n < 1 := by omega
          go_enter Tryd.func5, Tryd.ntmps5
          go_wp2_with fail
          refine HR1.out.mono ?_
          rintro e w1 ⟨rfl, rfl⟩
          go_wp2_with fail
          refine (HR2.out _).mono ?_
          rintro e w2 ⟨rfl, rfl⟩
          go_wp2_with fail
          refine (HS.out _).mono ?_
          rintro e w3 ⟨rfl, hO⟩
          have HO0 := Lib.hid hO
          clear hO
          go_wp2
          go_loopw [8] (fun i wr => i = .int .i64 0 ∧ Hid (Only Nil W wr)) (fun _ _ => 0)
          case atStart => exact ⟨rfl, HO0⟩
          case round =>
            obtain ⟨rfl, HO3⟩ := hrel
            go_wp2_with fail
            refine (HAW.out _ HO3.out).mono ?_
            rintro e w4 ⟨rfl, hO⟩
            have HO4 := Lib.hid (HO3.out.trans hO)
            clear hO
            go_wp2
            go_ret
            exact ⟨rfl, HO4.out⟩
    · have hm' : (20 : Int) < (m : Int) := by omega
      clear hn0 hx hy
      go_enter Tryd.func5, Tryd.ntmps5
      go_wp2_with fail
      refine (HAW.out _ HO3.out).mono ?_
      rintro e w4 ⟨rfl, hO⟩
      have HO4 := Lib.hid (HO3.out.trans hO)
      clear hO
      go_wp2
      go_ret
      exact ⟨rfl, HO4.out⟩
  · have hT' : (100 : Int) < (T : Int) := by omega
    clear hn0 hx hy
    go_enter Tryd.func5, Tryd.ntmps5
    go_wp2_with fail
    refine (HAW.out _ HO3.out).mono ?_
    rintro e w4 ⟨rfl, hO⟩
    have HO4 := Lib.hid (HO3.out.trans hO)
    clear hO
    go_wp2
    go_ret
    exact ⟨rfl, HO4.out⟩
end Go.Proofs.YtdneicbbnbbffaaDoor
