/- The names of cells: the reference's. -/
import Derived.Test.YtkflcjnjiiikoaaDoorCellName
import Derived.Deep.RegionHeld3
namespace Go.Proofs.YtkflcjnjiiikoaaDoor
open Go.RowKit

theorem refName_none_kind (k n c : Int) (w : World) (hk : ¬ (1 ≤ k ∧ k ≤ 6)) :
    Calls Tryd.prog 6 #[.int .i64 n, .int .i64 k, .int .i64 c] w fun e w' => e = .returned (.string ⟨#[]⟩) ∧ w = w' := by
  have HK := Lib.hid hk
  clear hk
  go_enter Tryd.func6, Tryd.ntmps6
  go_wp2_with fail
  refine (refOwn_no k _ HK.out).mono ?_
  rintro e w1 ⟨rfl, rfl⟩
  go_wp2
  go_ret
  exact ⟨rfl, rfl⟩


theorem refName_own (k n : Int) (c : Nat) (s : ByteArray) (w : World) (hk : 1 ≤ k ∧ k ≤ 6) (hn : 1 ≤ n ∧ n ≤ 64) (hs : (ownV k)[c]? = some (.string s)) :
    Calls Tryd.prog 6 #[.int .i64 n, .int .i64 k, .int .i64 c] w fun e w' => e = .returned (.string s) ∧ Only Nil w w' := by
  have hcL : c < (ownV k).size := (Array.getElem?_eq_some_iff.1 hs).1
  have hz : sizeI n = 8 + 4 * n := if_pos hn
  have c2 : 0 < sizeI n := by omega
  have c3 : (c : Int) < ((ownV k).size : Int) := by omega
  have HK := Lib.hid hk
  have HS := Lib.hid hs
  clear hk hn hz hs hcL
  generalize hsz : sizeI n = sz at *
  have HSZ := Lib.hid hsz
  clear hsz
  go_enter Tryd.func6, Tryd.ntmps6
  go_wp2_with fail
  refine (refOwn_yes k _ HK.out).mono ?_
  intro e w1 hF
  obtain ⟨gn, rfl, hgn, hR, hO⟩ := hF
  have HL := Lib.hid (own_size k HK.out)
  generalize hLe : (ownV k).size = L at *
  have HLE := Lib.hid hLe
  have HO1 := Lib.hid hO
  have HRN := Lib.hid hR
  have l1 := HL.out.1
  have l2 := HL.out.2
  clear hLe hR hO hgn
  go_wp2_with fail
  refine (refSize_any n _).mono ?_
  rw [HSZ.out]
  rintro e w2 ⟨rfl, rfl⟩
  have hcc := HRN.out.cell_ HS.out
  go_wp2
  go_ret
  exact ⟨rfl, HO1.out⟩

def Miss (n c : Int) : Prop := ∀ r j : Nat, r < 4 → (j : Int) < n → j < 64 → ¬ (cellI n r j = c ∧ 0 ≤ c)


theorem refName_miss_under (k n c : Int) (w : World) (hk : 1 ≤ k ∧ k ≤ 6) (hc : c < 0) :
    Calls Tryd.prog 6 #[.int .i64 n, .int .i64 k, .int .i64 c] w fun e w' => e = .returned (.string ⟨#[]⟩) ∧ Only Nil w w' := by
  have HK := Lib.hid hk
  have HMISS := Lib.hid (show Miss n c from fun r j _ _ _ h => by omega)
  clear hk
  go_enter Tryd.func6, Tryd.ntmps6
  go_wp2_with fail
  refine (refOwn_yes k _ HK.out).mono ?_
  intro e w1 hF
  obtain ⟨gn, rfl, hgn, hR, hO⟩ := hF
  have HL := Lib.hid (own_size k HK.out)
  generalize hLe : (ownV k).size = L at *
  have HLE := Lib.hid hLe
  have HO1 := Lib.hid hO
  have HRN := Lib.hid hR
  have l1 := HL.out.1
  have l2 := HL.out.2
  clear hLe hR hO hgn
  go_wp2
  go_loop [9] (fun a => ∃ r : Nat, r ≤ 4 ∧ a = .int .i64 r) (fun a => 4 - (intOf a).toNat)
  case atStart => exact ⟨0, by omega, rfl⟩
  case round =>
    obtain ⟨r, hr, rfl⟩ := hrel
    by_cases hlt : r < 4
    · go_wp2
      go_loop [10] (fun a => ∃ j : Nat, j ≤ 64 ∧ a = .int .i64 j) (fun a => 64 - (intOf a).toNat)
      case atStart => exact ⟨0, by omega, rfl⟩
      case round =>
        obtain ⟨j, hj, rfl⟩ := hrel
        by_cases h1 : (j : Int) < n
        · by_cases h2 : j < 64
          · have HX := Lib.hid (HMISS.out r j hlt h1 h2)
            generalize hx : cellI n r j = x at *
            have HXE := Lib.hid hx
            clear hx
            go_wp2_with fail
            refine (refCell_any n r j _ (by omega)).mono ?_
            rw [HXE.out]
            rintro e w' ⟨rfl, rfl⟩
            by_cases hxc : x = c
            · have hcn : ¬ 0 ≤ c := fun h => HX.out ⟨hxc, h⟩
              have hxb : (x == c) = true := by simpa using hxc
              clear hxc
              first
                | (exact absurd (show 0 ≤ c by assumption) hcn)
                | (go_wp2
                   exact ⟨⟨j + 1, by omega, by go_num⟩, by simp [intOf]; omega⟩)
            · have hxb : (x == c) = false := by simpa using hxc
              clear hxc
              go_wp2
              exact ⟨⟨j + 1, by omega, by go_num⟩, by simp [intOf]; omega⟩
          · go_wp2
            exact ⟨⟨r + 1, by omega, by go_num⟩, by simp [intOf]; omega⟩
        · go_wp2
          exact ⟨⟨r + 1, by omega, by go_num⟩, by simp [intOf]; omega⟩
    · go_wp2
      go_ret
      exact ⟨rfl, HO1.out.alloc _⟩

theorem refName_miss_over (k n c : Int) (w : World) (hk : 1 ≤ k ∧ k ≤ 6) (hc : ((ownV k).size : Int) ≤ c) (hm : Miss n c) :
    Calls Tryd.prog 6 #[.int .i64 n, .int .i64 k, .int .i64 c] w fun e w' => e = .returned (.string ⟨#[]⟩) ∧ Only Nil w w' := by
  have HK := Lib.hid hk
  have HMISS := Lib.hid hm
  have c0 : 0 ≤ c := by omega
  have c1 : ¬ c < ((ownV k).size : Int) := by omega
  clear hk hm hc
  go_enter Tryd.func6, Tryd.ntmps6
  go_wp2_with fail
  refine (refOwn_yes k _ HK.out).mono ?_
  intro e w1 hF
  obtain ⟨gn, rfl, hgn, hR, hO⟩ := hF
  have HL := Lib.hid (own_size k HK.out)
  generalize hLe : (ownV k).size = L at *
  have HLE := Lib.hid hLe
  have HO1 := Lib.hid hO
  have HRN := Lib.hid hR
  have l1 := HL.out.1
  have l2 := HL.out.2
  clear hLe hR hO hgn
  go_wp2
  go_loop [9] (fun a => ∃ r : Nat, r ≤ 4 ∧ a = .int .i64 r) (fun a => 4 - (intOf a).toNat)
  case atStart => exact ⟨0, by omega, rfl⟩
  case round =>
    obtain ⟨r, hr, rfl⟩ := hrel
    by_cases hlt : r < 4
    · go_wp2
      go_loop [10] (fun a => ∃ j : Nat, j ≤ 64 ∧ a = .int .i64 j) (fun a => 64 - (intOf a).toNat)
      case atStart => exact ⟨0, by omega, rfl⟩
      case round =>
        obtain ⟨j, hj, rfl⟩ := hrel
        by_cases h1 : (j : Int) < n
        · by_cases h2 : j < 64
          · have HX := Lib.hid (HMISS.out r j hlt h1 h2)
            generalize hx : cellI n r j = x at *
            have HXE := Lib.hid hx
            clear hx
            go_wp2_with fail
            refine (refCell_any n r j _ (by omega)).mono ?_
            rw [HXE.out]
            rintro e w' ⟨rfl, rfl⟩
            by_cases hxc : x = c
            · have hcn : ¬ 0 ≤ c := fun h => HX.out ⟨hxc, h⟩
              have hxb : (x == c) = true := by simpa using hxc
              clear hxc
              first
                | (exact absurd (show 0 ≤ c by assumption) hcn)
                | (go_wp2
                   exact ⟨⟨j + 1, by omega, by go_num⟩, by simp [intOf]; omega⟩)
            · have hxb : (x == c) = false := by simpa using hxc
              clear hxc
              go_wp2
              exact ⟨⟨j + 1, by omega, by go_num⟩, by simp [intOf]; omega⟩
          · go_wp2
            exact ⟨⟨r + 1, by omega, by go_num⟩, by simp [intOf]; omega⟩
        · go_wp2
          exact ⟨⟨r + 1, by omega, by go_num⟩, by simp [intOf]; omega⟩
    · go_wp2
      go_ret
      exact ⟨rfl, HO1.out.alloc _⟩

theorem refName_miss_size (k n c : Int) (w : World) (hk : 1 ≤ k ∧ k ≤ 6) (hc0 : 0 ≤ c) (hc : c < ((ownV k).size : Int)) (hn : ¬ (1 ≤ n ∧ n ≤ 64)) (hm : Miss n c) :
    Calls Tryd.prog 6 #[.int .i64 n, .int .i64 k, .int .i64 c] w fun e w' => e = .returned (.string ⟨#[]⟩) ∧ Only Nil w w' := by
  have HK := Lib.hid hk
  have HMISS := Lib.hid hm
  have HSZ := Lib.hid (show sizeI n = 0 from if_neg hn)
  clear hk hm hn
  go_enter Tryd.func6, Tryd.ntmps6
  go_wp2_with fail
  refine (refOwn_yes k _ HK.out).mono ?_
  intro e w1 hF
  obtain ⟨gn, rfl, hgn, hR, hO⟩ := hF
  have HL := Lib.hid (own_size k HK.out)
  generalize hLe : (ownV k).size = L at *
  have HLE := Lib.hid hLe
  have HO1 := Lib.hid hO
  have HRN := Lib.hid hR
  have l1 := HL.out.1
  have l2 := HL.out.2
  clear hLe hR hO hgn
  go_wp2_with fail
  refine (refSize_any n _).mono ?_
  rw [HSZ.out]
  rintro e w2 ⟨rfl, rfl⟩
  go_wp2
  go_loop [9] (fun a => ∃ r : Nat, r ≤ 4 ∧ a = .int .i64 r) (fun a => 4 - (intOf a).toNat)
  case atStart => exact ⟨0, by omega, rfl⟩
  case round =>
    obtain ⟨r, hr, rfl⟩ := hrel
    by_cases hlt : r < 4
    · go_wp2
      go_loop [10] (fun a => ∃ j : Nat, j ≤ 64 ∧ a = .int .i64 j) (fun a => 64 - (intOf a).toNat)
      case atStart => exact ⟨0, by omega, rfl⟩
      case round =>
        obtain ⟨j, hj, rfl⟩ := hrel
        by_cases h1 : (j : Int) < n
        · by_cases h2 : j < 64
          · have HX := Lib.hid (HMISS.out r j hlt h1 h2)
            generalize hx : cellI n r j = x at *
            have HXE := Lib.hid hx
            clear hx
            go_wp2_with fail
            refine (refCell_any n r j _ (by omega)).mono ?_
            rw [HXE.out]
            rintro e w' ⟨rfl, rfl⟩
            by_cases hxc : x = c
            · have hcn : ¬ 0 ≤ c := fun h => HX.out ⟨hxc, h⟩
              have hxb : (x == c) = true := by simpa using hxc
              clear hxc
              first
                | (exact absurd (show 0 ≤ c by assumption) hcn)
                | (go_wp2
                   exact ⟨⟨j + 1, by omega, by go_num⟩, by simp [intOf]; omega⟩)
            · have hxb : (x == c) = false := by simpa using hxc
              clear hxc
              go_wp2
              exact ⟨⟨j + 1, by omega, by go_num⟩, by simp [intOf]; omega⟩
          · go_wp2
            exact ⟨⟨r + 1, by omega, by go_num⟩, by simp [intOf]; omega⟩
        · go_wp2
          exact ⟨⟨r + 1, by omega, by go_num⟩, by simp [intOf]; omega⟩
    · go_wp2
      go_ret
      exact ⟨rfl, HO1.out.alloc _⟩

theorem cell_inj {n r0 i0 r j : Int} (hi : 0 ≤ i0 ∧ i0 < n) (hj : 0 ≤ j ∧ j < n) (h : 8 + r * n + j = 8 + r0 * n + i0) : r = r0 ∧ j = i0 := by
  have h1 : (j + r * n) / n = r := by rw [Int.add_mul_ediv_right _ _ (by omega), Int.ediv_eq_zero_of_lt hj.1 hj.2]; omega
  have h2 : (i0 + r0 * n) / n = r0 := by rw [Int.add_mul_ediv_right _ _ (by omega), Int.ediv_eq_zero_of_lt hi.1 hi.2]; omega
  have h3 : j + r * n = i0 + r0 * n := by omega
  rw [h3, h2] at h1
  subst h1
  exact ⟨rfl, by omega⟩
theorem cell_hit {n r0 i0 c r j : Int} (hn : 1 ≤ n ∧ n ≤ 64) (hi : 0 ≤ i0 ∧ i0 < n) (hj : 0 ≤ j ∧ j < n) (hc : c = 8 + r0 * n + i0) : cellI n r j = c ↔ r = r0 ∧ j = i0 := by
  rw [show cellI n r j = 8 + r * n + j from if_pos ⟨hn.1, hn.2, hj.1, hj.2⟩, hc]
  constructor
  · exact cell_inj hi hj
  · rintro ⟨rfl, rfl⟩; rfl

def wordsV : Array Value := #[.string (rowBB 0), .string (rowBB 1), .string (rowBB 2), .string (rowBB 3)]
theorem wordsV_at (r : Nat) (h : r < 4) : wordsV[r]? = some (.string (rowBB r)) := by
  rcases (show r = 0 ∨ r = 1 ∨ r = 2 ∨ r = 3 by omega) with rfl | rfl | rfl | rfl <;> rfl

set_option maxHeartbeats 1000000 in
theorem refName_task (k n c : Int) (r0 i0 : Nat) (w : World) (hk : 1 ≤ k ∧ k ≤ 6) (hn : 1 ≤ n ∧ n ≤ 64) (hr : r0 < 4) (hi : (i0 : Int) < n) (hc : c = 8 + r0 * n + i0) :
    Calls Tryd.prog 6 #[.int .i64 n, .int .i64 k, .int .i64 c] w fun e w' => e = .returned (.string (rowBB r0 ++ digB i0)) ∧ Only Nil w w' := by
  have hrn0 : 0 ≤ (r0 : Int) * n := Int.mul_nonneg (by omega) (by omega)
  have c8 : 8 ≤ c := by omega
  have c0 : 0 ≤ c := by omega
  have HHIT := Lib.hid (fun r j : Int => @cell_hit n r0 i0 c r j hn ⟨by omega, hi⟩)
  have HC := Lib.hid hc
  have HK := Lib.hid hk
  clear hrn0 hc hk
  obtain ⟨n1, n2⟩ := hn
  go_enter Tryd.func6, Tryd.ntmps6
  go_wp2_with fail
  refine (refOwn_yes k _ HK.out).mono ?_
  intro e w1 hF
  obtain ⟨gn, rfl, hgn, hR, hO⟩ := hF
  have HL := Lib.hid (own_size k HK.out)
  generalize hLe : (ownV k).size = L at *
  have HLE := Lib.hid hLe
  have HO1 := Lib.hid hO
  have HRN := Lib.hid hR
  have l1 := HL.out.1
  have l2 := HL.out.2
  clear hLe hR hO hgn
  go_wp2
  have HRW := Lib.hid (Row.new w1 9 wordsV)
  have HOW := Lib.hid (HO1.out.alloc (.cells wordsV 9))
  go_loop [9] (fun a => ∃ r : Nat, r ≤ r0 ∧ a = .int .i64 r) (fun a => 4 - (intOf a).toNat)
  case atStart => exact ⟨0, by omega, rfl⟩
  case round =>
    obtain ⟨r, hrr, rfl⟩ := hrel
    by_cases hlt : r < r0
    · go_wp2
      go_loop [10] (fun a => ∃ j : Nat, (j : Int) ≤ n ∧ a = .int .i64 j) (fun a => 64 - (intOf a).toNat)
      case atStart => exact ⟨0, by omega, rfl⟩
      case round =>
        obtain ⟨j, hj, rfl⟩ := hrel
        by_cases h1 : (j : Int) < n
        · have hx : ¬ cellI n r j = c := fun h => by have := (HHIT.out r j ⟨by omega, h1⟩ HC.out).1 h; omega
          have hxb : (cellI n r j == c) = false := by simpa using hx
          clear hx
          generalize hx : cellI n r j = x at *
          have HXE := Lib.hid hx
          clear hx
          go_wp2_with fail
          refine (refCell_any n r j _ (by omega)).mono ?_
          rw [HXE.out]
          rintro e w' ⟨rfl, rfl⟩
          go_wp2
          exact ⟨⟨j + 1, by omega, by go_num⟩, by simp [intOf]; omega⟩
        · go_wp2
          exact ⟨⟨r + 1, by omega, by go_num⟩, by simp [intOf]; omega⟩
    · obtain rfl : r = r0 := by omega
      go_wp2
      go_loop [10] (fun a => ∃ j : Nat, j ≤ i0 ∧ a = .int .i64 j) (fun a => 64 - (intOf a).toNat)
      case atStart => exact ⟨0, by omega, rfl⟩
      case round =>
        obtain ⟨j, hj, rfl⟩ := hrel
        by_cases h1 : j < i0
        · have hx : ¬ cellI n r j = c := fun h => by have := (HHIT.out r j ⟨by omega, by omega⟩ HC.out).1 h; omega
          have hxb : (cellI n r j == c) = false := by simpa using hx
          clear hx
          generalize hx : cellI n r j = x at *
          have HXE := Lib.hid hx
          clear hx
          go_wp2_with fail
          refine (refCell_any n r j _ (by omega)).mono ?_
          rw [HXE.out]
          rintro e w' ⟨rfl, rfl⟩
          go_wp2
          exact ⟨⟨j + 1, by omega, by go_num⟩, by simp [intOf]; omega⟩
        · obtain rfl : j = i0 := by omega
          have hx : cellI n r j = c := (HHIT.out r j ⟨by omega, by omega⟩ HC.out).2 ⟨rfl, rfl⟩
          have HXE := Lib.hid hx
          clear hx
          go_wp2_with fail
          refine (refCell_any n r j _ (by omega)).mono ?_
          rw [HXE.out]
          rintro e w' ⟨rfl, rfl⟩
          go_wp2_with fail
          have hwc := HRW.out.cell_ (wordsV_at r (by omega))
          have s1 := rowBB_size r
          have s2 := digB_size j (by omega)
          have HT := Lib.hid (fun W => text_small j W (by omega))
          have hlr : (r : Int) < 4 := by omega
          have s3 : ¬ 9223372036854775807 < (rowBB r).size + (digB j).size := by omega
          go_region_held3 (fun w' => w'.cell? ⟨w1.heap.size, r, none⟩ = some (.string (rowBB r)) ∧ Only Nil w w')
            (first
              | exact ⟨hwc, HOW.out.drew⟩
              | go_keep
              | (go_split_ands
                 refine ⟨?_, ?_⟩
                 · rw [hO.cell (World.block_lt_of_cell? _ _ (by assumption)) id]; assumption
                 · exact Only.trans (by assumption) hO))
            ((first | (go_at_call 20; refine (HT.out _).mono ?_; rintro e w' ⟨rfl, hO⟩)))
          go_wp2
          rename_i hH
          go_ret
          exact ⟨rfl, hH.2⟩
end Go.Proofs.YtkflcjnjiiikoaaDoor
