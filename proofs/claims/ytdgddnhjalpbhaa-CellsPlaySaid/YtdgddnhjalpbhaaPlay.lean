/- CellsPlay: the walk. -/
import Derived.Test.YtdgddnhjalpbhaaRefDo
import Derived.Test.YtdgddnhjalpbhaaTab
namespace Go.Proofs.Ytdgddnhjalpbhaa
open Go.RowKit

/-- The accesses that came in: element by element. -/
def IsAccs (w : World) (A : Option Addr) (len : Nat) : Prop := ∀ i, i < len → ∃ b q k c x y o, A = some ⟨b, q, none⟩ ∧ b < w.heap.size ∧
  w.cell? ⟨b, q + i * 5, none⟩ = some (.int .i64 k) ∧ w.cell? ⟨b, q + i * 5 + 1, none⟩ = some (.int .i64 c) ∧ w.cell? ⟨b, q + i * 5 + 2, none⟩ = some (.int .u32 x) ∧
  w.cell? ⟨b, q + i * 5 + 3, none⟩ = some (.int .u32 y) ∧ w.cell? ⟨b, q + i * 5 + 4, none⟩ = some (.int .u32 o)

theorem play_long (A B : Option Addr) (n cap m capb : Nat) (w : World) (hm : 1024 < n) :
    Calls Try.prog 3 #[.slice A n cap, .slice B m capb] w fun e w' => e = .returned (.bool true) ∧ Only Nil w w' := by
  have hm' : 1024 < (n : Int) := by omega
  go_enter Try.func3, Try.ntmps3
  go_wp2_with fail
  refine (from_not A n cap _ hm).mono ?_
  rintro e w1 ⟨rfl, hw⟩
  obtain rfl := hw.symm
  go_wp2_with fail
  refine (awake_any _).mono ?_
  rintro e w2 ⟨rfl, hO⟩
  have HO := Lib.hid hO
  clear hO
  go_wp2
  go_ret
  exact ⟨rfl, HO.out⟩

set_option maxHeartbeats 800000 in
theorem play_many (A B : Option Addr) (n cap m capb : Nat) (xs : List Int) (w : World) (hr : IsRow .u32 w A n cap xs) (hm : n ≤ 1024) (hb : 100 < m) :
    Calls Try.prog 3 #[.slice A n cap, .slice B m capb] w fun e w' => e = .returned (.bool true) ∧ Only Nil w w' := by
  have hm' : (n : Int) ≤ 1024 := by omega
  have hb' : 100 < (m : Int) := by omega
  have HR := Lib.hid hr
  clear hr
  go_enter Try.func3, Try.ntmps3
  go_wp2_with fail
  refine (from_ok A n cap xs _ hm (isRow_held HR.out)).mono ?_
  intro e w1 hF
  obtain ⟨b, A', c', rfl, hb, hA, hM, hO⟩ := hF
  have HM := Lib.hid hM
  have HO1 := Lib.hid hO
  have HA := Lib.hid hA
  clear hM hO hA
  go_wp2_with fail
  have hh := HM.out.hdr
  rw [HR.out.len_] at hh
  refine (len_any b A' n c' _ hh).mono ?_
  rintro e w2 ⟨rfl, hw⟩
  obtain rfl := hw.symm
  have HH := Lib.hid hh
  clear hh hw
  go_wp2_with fail
  refine (len_any b A' n c' _ HH.out).mono ?_
  rintro e w2 ⟨rfl, hw⟩
  obtain rfl := hw.symm
  go_wp2_with fail
  refine (awake_any _).mono ?_
  rintro e w2 ⟨rfl, hO⟩
  have HO := Lib.hid hO
  clear hO
  go_wp2
  go_ret
  exact ⟨rfl, HO1.out.trans HO.out⟩

set_option maxRecDepth 100000 in
set_option maxHeartbeats 1600000 in
theorem play_main (A B : Option Addr) (n cap m capb : Nat) (xs : List Int) (w : World) (hr : IsRow .u32 w A n cap xs) (ha : IsAccs w B m) (hm : n ≤ 1024) (hb : m ≤ 100) :
    Calls Try.prog 3 #[.slice A n cap, .slice B m capb] w fun e w' => e = .returned (.bool true) ∧ Only Nil w w' := by
  have hm' : (n : Int) ≤ 1024 := by omega
  have hb' : (m : Int) ≤ 100 := by omega
  have HR := Lib.hid hr
  have HC := Lib.hid ha
  clear hr ha
  go_enter Try.func3, Try.ntmps3
  go_wp2_with fail
  refine (from_ok A n cap xs _ hm (isRow_held HR.out)).mono ?_
  intro e w1 hF
  obtain ⟨b, A', c', rfl, hb, hA, hM, hO⟩ := hF
  have HM := Lib.hid hM
  have HO1 := Lib.hid hO
  have HA := Lib.hid hA
  clear hM hO hA
  go_wp2_with fail
  have hh := HM.out.hdr
  rw [HR.out.len_] at hh
  refine (len_any b A' n c' _ hh).mono ?_
  rintro e w2 ⟨rfl, hw⟩
  obtain rfl := hw.symm
  clear hh hw
  go_wp2_with fail
  refine (copy_n A n cap xs _ (by omega) ((isRow_held HR.out).only HO1.out (fun _ _ => id))).mono ?_
  intro e w2 hF
  obtain ⟨A2, c2, rfl, hOwn, hO⟩ := hF
  have HW2 := Lib.hid hOwn
  have HO2 := Lib.hid hO
  have hbl : b < w1.heap.size := HM.out.hdr.lt
  have hal : ∀ i, At A' i → w.heap.size ≤ i ∧ i < w1.heap.size := fun i hi => ⟨HA.out i hi, HM.out.own.lt i hi⟩
  have h2l : ∀ i, At A2 i → w1.heap.size ≤ i := HW2.out.base
  have HAL := Lib.hid hal
  have H2L := Lib.hid h2l
  clear hOwn hO hal h2l
  go_wp2
  go_loopw [8] (fun i wr => ∃ k : Nat, k ≤ m ∧ i = .int .i64 k ∧ Only Nil w wr ∧ ∃ ys, ys.length = n ∧ Mem wr b A' c' ys ∧ Own wr w1.heap.size A2 c2 ys) (fun i _ => m - (intOf i).toNat)
  case atStart => exact ⟨0, Nat.zero_le _, rfl, HO1.out.trans HO2.out, xs, HR.out.len_, HM.out.only HO2.out id (fun _ _ => id), HW2.out⟩
  case round =>
    obtain ⟨k, hk, rfl, hor, ys, hys, hmr, howr⟩ := hrel
    have HOR := Lib.hid hor
    have HYS := Lib.hid hys
    have HMR := Lib.hid hmr
    have HWR := Lib.hid howr
    clear hor hys hmr howr
    by_cases hlt : k < m
    · obtain ⟨p, q, kk, cc, x, y, o, hB, hp, f0, f1, f2, f3, f4⟩ := HC.out k hlt
      have g0 := (HOR.out.cell (p := ⟨p, q + k * 5, none⟩) hp id).trans f0
      have g1 := (HOR.out.cell (p := ⟨p, q + k * 5 + 1, none⟩) hp id).trans f1
      have g2 := (HOR.out.cell (p := ⟨p, q + k * 5 + 2, none⟩) hp id).trans f2
      have g3 := (HOR.out.cell (p := ⟨p, q + k * 5 + 3, none⟩) hp id).trans f3
      have g4 := (HOR.out.cell (p := ⟨p, q + k * 5 + 4, none⟩) hp id).trans f4
      subst hB
      clear f0 f1 f2 f3 f4
      go_wp2_with fail
      refine (do_any b A' c' ys kk cc x y o _ HMR.out).mono ?_
      obtain ⟨ka, ca, xa, ya, hv⟩ := doVal_form ys kk cc x y
      generalize (if doOk ys kk cc then wordAt ys cc else 0) = oa at hv
      rw [hv]
      have HV := Lib.hid hv
      rintro e w3 ⟨rfl, hO, hM⟩
      have hq3 : Only Nil w w3 := HOR.out.step hO (fun i hi h => by have := HAL.out i h; omega)
      have hw3 : Own w3 w1.heap.size A2 c2 ys := HWR.out.only hO (fun i hi h => by have := HAL.out i h; have := H2L.out i hi; omega)
      have g0 := (hq3.cell (p := ⟨p, q + k * 5, none⟩) hp id).trans (((HOR.out.cell (p := ⟨p, q + k * 5, none⟩) hp id).symm).trans g0)
      have g1 := (hq3.cell (p := ⟨p, q + k * 5 + 1, none⟩) hp id).trans (((HOR.out.cell (p := ⟨p, q + k * 5 + 1, none⟩) hp id).symm).trans g1)
      have g2 := (hq3.cell (p := ⟨p, q + k * 5 + 2, none⟩) hp id).trans (((HOR.out.cell (p := ⟨p, q + k * 5 + 2, none⟩) hp id).symm).trans g2)
      have g3 := (hq3.cell (p := ⟨p, q + k * 5 + 3, none⟩) hp id).trans (((HOR.out.cell (p := ⟨p, q + k * 5 + 3, none⟩) hp id).symm).trans g3)
      have g4 := (hq3.cell (p := ⟨p, q + k * 5 + 4, none⟩) hp id).trans (((HOR.out.cell (p := ⟨p, q + k * 5 + 4, none⟩) hp id).symm).trans g4)
      have hlp : p < w3.heap.size := by have := hq3.size; omega
      have HM3 := Lib.hid hM
      have HQ3 := Lib.hid hq3
      have HW3 := Lib.hid hw3
      clear hM hO hq3 hw3 hv
      go_wp2_with fail
      have e4 := ((Only.refl Nil w3).alloc (Obj.cells #[.int .i64 ka, .int .i64 ca, .int .u32 xa, .int .u32 ya, .int .u32 oa] 33))
      refine (refdo_any w1.heap.size A2 n c2 ys kk cc x y o _ (HW3.out.only e4 (fun _ _ => id)) HYS.out).mono ?_
      rw [HV.out]
      rintro e w4 ⟨rfl, hO, hW⟩
      have hs2 : ∀ i, At A2 i → i < w3.heap.size := HW3.out.lt
      have F9 : Row w4 w3.heap.size 33 #[.int .i64 ka, .int .i64 ca, .int .u32 xa, .int .u32 ya, .int .u32 oa] := (Row.new w3 _ _).only hO (fun h => by have := hs2 _ h; omega)
      have hq4 : Only Nil w w4 := (HQ3.out.alloc _).step hO (fun i hi h => by have := H2L.out i h; have := HO1.out.size; omega)
      have hm4 : Mem w4 b A' c' (doNew ys kk cc x y) := (HM3.out.only e4 id (fun _ _ => id)).only hO (fun h => by have := H2L.out _ h; omega) (fun i hi h => by have := H2L.out _ h; have := HAL.out i hi; omega)
      have fl0 : w4.cell? ⟨w3.heap.size, 0, none⟩ = some (.int .i64 ka) := F9.cell_ (i := 0) rfl
      have fl1 : w4.cell? ⟨w3.heap.size, 1, none⟩ = some (.int .i64 ca) := F9.cell_ (i := 1) rfl
      have fl2 : w4.cell? ⟨w3.heap.size, 2, none⟩ = some (.int .u32 xa) := F9.cell_ (i := 2) rfl
      have fl3 : w4.cell? ⟨w3.heap.size, 3, none⟩ = some (.int .u32 ya) := F9.cell_ (i := 3) rfl
      have fl4 : w4.cell? ⟨w3.heap.size, 4, none⟩ = some (.int .u32 oa) := F9.cell_ (i := 4) rfl
      have hs4 : w3.heap.size < w4.heap.size := F9.lt
      have HW4 := Lib.hid hW
      have HM4 := Lib.hid hm4
      have HQ4 := Lib.hid hq4
      clear hO hW e4 hs2 F9 hq4 hm4
      generalize doOk ys kk cc = ok
      have hln : (doNew ys kk cc x y).length = n := by rw [doNew_len]; exact HYS.out
      generalize doNew ys kk cc x y = zs at *
      have HLN := Lib.hid hln
      clear hln
      go_wp2_with fail
      have e5 := ((Only.refl Nil w4).alloc (Obj.cells #[.int .i64 ka, .int .i64 ca, .int .u32 xa, .int .u32 ya, .int .u32 oa] 33))
      refine (all_n b A' c' n zs _ (HM4.out.only e5 id (fun _ _ => id)) HLN.out).mono ?_
      intro e w6 hF
      obtain ⟨A6, c6, rfl, hOwn, hO⟩ := hF
      have HW6 := Lib.hid hOwn
      have HO6 := Lib.hid (e5.trans hO)
      clear hO hOwn e5
      go_wp2_with fail
      refine (same_n A6 A2 c6 c2 n _ _ _ (HW6.out.held_n HLN.out) ((HW4.out.only HO6.out (fun _ _ => id)).held_n HLN.out) (by omega)).mono ?_
      rw [show decide (zs = zs) = true by simp]
      rintro e w7 ⟨rfl, hO⟩
      have HO7 := Lib.hid (HO6.out.trans hO)
      clear hO
      go_wp2
      exact ⟨⟨k + 1, by omega, by go_num, HQ4.out.trans HO7.out, zs, HLN.out, HM4.out.only HO7.out id (fun _ _ => id), HW4.out.only HO7.out (fun _ _ => id)⟩, by simp [intOf]; omega⟩
    · go_wp2_with fail
      refine (awake_any _).mono ?_
      rintro e w2 ⟨rfl, hO⟩
      have HO := Lib.hid hO
      clear hO
      go_wp2
      go_ret
      exact ⟨rfl, HOR.out.trans HO.out⟩

theorem isAccs_of {H : Type} {enc : TypeId × Value → H} {w : World} {base : Nat} {spare : Nat → Bool} {held : Bool} {fuel len cap : Nat} {A : Option Addr} {x : DataW H × List MemPlace}
    (h : DataW.trod enc Try.prog w base spare held fuel 23 [.slice A len cap] = some x) : IsAccs w A len := by
  intro i hi
  obtain ⟨b, o, hA, hb, hf⟩ := open_tab Try.underlying23 Try.underlying33 (by kernel_rfl) (by kernel_rfl) (by decide) h i hi
  obtain ⟨v0, n0, y0, c0, t0⟩ := hf 0 _ rfl
  obtain ⟨v1, n1, y1, c1, t1⟩ := hf 1 _ rfl
  obtain ⟨v2, n2, y2, c2, t2⟩ := hf 2 _ rfl
  obtain ⟨v3, n3, y3, c3, t3⟩ := hf 3 _ rfl
  obtain ⟨v4, n4, y4, c4, t4⟩ := hf 4 _ rfl
  obtain ⟨z0, e0, _, _⟩ := DataW.trod_int Try.underlying3 t0
  obtain ⟨z1, e1, _, _⟩ := DataW.trod_int Try.underlying3 t1
  obtain ⟨z2, e2, _, _⟩ := DataW.trod_int Try.underlying31 t2
  obtain ⟨z3, e3, _, _⟩ := DataW.trod_int Try.underlying31 t3
  obtain ⟨z4, e4, _, _⟩ := DataW.trod_int Try.underlying31 t4
  simp only [List.cons.injEq, and_true] at e0 e1 e2 e3 e4
  subst e0 e1 e2 e3 e4
  exact ⟨b, o, z0, z1, z2, z3, z4, hA, hb, c0, c1, c2, c3, c4⟩

theorem walk_cellsPlay (a0 : Option Addr) (len0 cap0 : Nat) (z0 : List Int) (a1 : Option Addr) (len1 cap1 : Nat) (w : World) (w0 : IsRow .u32 w a0 len0 cap0 z0) (w1 : IsAccs w a1 len1) :
    Calls Try.prog 3 #[.slice a0 len0 cap0, .slice a1 len1 cap1] w fun e w' => e = .returned (.bool true) ∧ Below w.heap.size w w' := by
  have fin : Calls Try.prog 3 #[.slice a0 len0 cap0, .slice a1 len1 cap1] w fun e w' => e = .returned (.bool true) ∧ Only Nil w w' := by
    by_cases h : len0 ≤ 1024
    · by_cases h2 : len1 ≤ 100
      · exact play_main a0 a1 len0 cap0 len1 cap1 z0 w w0 w1 h h2
      · exact play_many a0 a1 len0 cap0 len1 cap1 z0 w w0 h (by omega)
    · exact play_long a0 a1 len0 cap0 len1 cap1 w (by omega)
  exact fin.mono fun _ _ ⟨he, hO⟩ => ⟨he, hO.below (Nat.le_refl _) (fun _ _ h => h)⟩
end Go.Proofs.Ytdgddnhjalpbhaa
