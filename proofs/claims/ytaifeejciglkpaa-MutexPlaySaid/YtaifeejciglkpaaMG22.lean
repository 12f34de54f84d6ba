import Derived.Test.YtaifeejciglkpaaMG2
import Derived.Test.YtaifeejciglkpaaMG18
import Derived.Test.YtaifeejciglkpaaMG5
import Derived.Test.YtaifeejciglkpaaMG20
import Derived.Test.YtaifeejciglkpaaMG21
set_option linter.unusedVariables false
set_option linter.unusedSimpArgs false
namespace Go.Proofs.Ytaifeejciglkpaa
open Go.RowKit
theorem load_raw (b : Nat) (A : Option Addr) (cp : Nat) (xs : List Int) (c : Int) (w : World) (h : Mem w b A cp xs) :
    Calls Try.prog 20 #[.pointer (some ⟨b, 0, none⟩), .int .i64 c] w fun e w' => e = .returned (.int .u32 (wordAt xs c)) ∧ Only (At A) w w' ∧ Mem w' b A cp (doNew xs 1 c 0 0) := by
  have HH := Lib.hid h
  clear h
  go_enter Try.func20, Try.ntmps20
  go_wp2_with fail
  refine (do_any b A cp xs 1 c 0 0 0 _ HH.out).mono ?_
  obtain ⟨k', c', x', y', hv⟩ := doVal_form xs 1 c 0 0
  rw [oldAt xs 1 c rfl] at hv
  rintro e w1 ⟨rfl, hO, hM⟩
  rw [hv]
  have HO := Lib.hid hO
  have HM := Lib.hid hM
  clear hO hM hv
  go_wp2
  go_ret
  exact ⟨rfl, HO.out.alloc _, HM.out.only ((Only.refl Nil w1).alloc _) id (fun _ _ => id)⟩
theorem load_any (b : Nat) (A : Option Addr) (cp : Nat) (xs : List Int) (c : Int) (w : World) (h : Mem w b A cp xs) :
    Calls Try.prog 20 #[.pointer (some ⟨b, 0, none⟩), .int .i64 c] w fun e w' => e = .returned (.int .u32 (wordAt xs c)) ∧ Only (At A) w w' ∧ Mem w' b A cp xs :=
  (load_raw b A cp xs c w h).mono fun _ _ ⟨h1, h2, h3⟩ => ⟨h1, h2, by rw [doNew_load] at h3; exact h3⟩
end Go.Proofs.Ytaifeejciglkpaa
set_option linter.unusedVariables false
set_option linter.unusedSimpArgs false
namespace Go.Proofs.Ytaifeejciglkpaa
open Go.RowKit
def awE : Nat → LS × Bool
  | 0 => (newR 1 1 0 0 (List.replicate 12 0), false)
  | j + 1 => (awE j).1.mxEnter 0 1
def awG : Nat → LS × Bool
  | 0 => ((awE 3).1.go 6, false)
  | j + 1 => (awG j).1.mxGive 0 6 []
theorem awE_ok : ∀ j, (Words (awE j).1.xs ∧ 0 ≤ (awE j).1.a ∧ (awE j).1.a < 4294967296) ∧ (awE j).1.ns.length ≤ j
  | 0 => ⟨⟨fun x hx => by
      have e : x = 0 := List.eq_of_mem_replicate hx
      subst e; decide, Int.le_refl _, by show (0 : Int) < _; decide⟩, Nat.le_refl _⟩
  | j + 1 => by
    obtain ⟨h, hn⟩ := awE_ok j
    have k := keep_enter (awE j).1 0 1
    exact ⟨k.ab h.1 h.2, Nat.le_trans k.1.notes (by omega)⟩
theorem awG_ok : ∀ j, (Words (awG j).1.xs ∧ 0 ≤ (awG j).1.a ∧ (awG j).1.a < 4294967296) ∧ (awG j).1.ns.length ≤ 3
  | 0 => ⟨(awE_ok 3).1, (awE_ok 3).2⟩
  | j + 1 => by
    obtain ⟨h, hn⟩ := awG_ok j
    have k := keep_give (awG j).1 0 6 []
    exact ⟨k.ab h.1 h.2, Nat.le_trans k.1.notes hn⟩
theorem aw_in : (awE 3).2 = true := by decide +kernel
theorem aw_out : (awG 2).2 = true := by decide +kernel
theorem aw_word : wordAt (awG 2).1.xs 0 = 0 := by decide +kernel
structure AwI (w0 : World) (B b : Nat) (A : Option Addr) (cp : Nat) (r : LS) (W : World) : Prop where
  run : ∃ nv, RunP W B (some ⟨b, 0, none⟩) A cp nv r
  only : Only Nil w0 W
  new : w0.heap.size ≤ B ∧ ∀ j, At A j → w0.heap.size ≤ j
theorem AwI.next {w0 W W' : World} {B b : Nat} {A : Option Addr} {cp : Nat} {r r' : LS} {nv : Value} (h : AwI w0 B b A cp r W) (ho : Only (TurnB B A) W W') (hp : RunP W' B (some ⟨b, 0, none⟩) A cp nv r') : AwI w0 B b A cp r' W' :=
  ⟨⟨nv, hp⟩, h.only.step ho (fun j hj e => by
    rcases e with e | e
    · have := h.new.1; omega
    · have := h.new.2 j e; omega), h.new⟩
set_option maxHeartbeats 2000000 in
theorem awake_any (w : World) : Calls Try.prog 6 #[] w fun e w' => e = .returned (.bool true) ∧ Only Nil w w' := by
  go_enter Try.func6, Try.ntmps6
  go_wp2_with fail
  refine (first4 1 12 _ (by decide) (by decide)).mono ?_
  rintro e w1 ⟨gf, rfl, hg, hH, hO, _⟩
  have HH := Lib.hid hH
  have HO := Lib.hid hO
  clear hg hH hO
  go_wp2_with fail
  refine (from_ok _ _ _ _ _ (by decide) HH.out).mono ?_
  rintro e w2 ⟨b, A', c', rfl, hb, hA, hM, hO⟩
  have HM : Hid (Made w b A' c' (List.replicate 12 0) w2) := Lib.hid ⟨hM, fun j hj => Nat.le_trans HO.out.size (hA j hj), HO.out.trans hO⟩
  clear hb hA hM hO HO HH
  have e0 := (Only.refl Nil w2).alloc (.cells (newCells (some ⟨b, 0, none⟩) 1 1 0 0) 43)
  have HI : Hid (AwI w w2.heap.size b A' c' (awE 0).1 (w2.alloc (.cells (newCells (some ⟨b, 0, none⟩) 1 1 0 0) 43))) := Lib.hid ⟨⟨_, Row.new w2 _ _, ownN_nil _ _, (Memo.of HM.out.mem).keep e0⟩, HM.out.only.trans e0, HM.out.only.size, HM.out.new⟩
  clear e0 HM
  unfold newCells at HI
  go_upto_region 8 with (fail)
  generalize w2.alloc _ = w3 at *
  generalize w2.heap.size = B at *
  go_loopw [6, 8] (fun bv iv wr => ∃ j : Nat, j ≤ 3 ∧ iv = .int .i64 j ∧ bv = .bool (awE j).2 ∧ Hid (AwI w B b A' c' (awE j).1 wr)) (fun _ iv _ => 3 - (intOf iv).toNat)
  case atStart => exact ⟨0, Nat.zero_le _, rfl, rfl, HI⟩
  case round =>
    obtain ⟨j, hj, rfl, rfl, HJ⟩ := hrel
    clear HI
    by_cases hlt : j < 3
    · obtain ⟨nv, hP⟩ := HJ.out.run
      have HP := Lib.hid hP
      have HK := Lib.hid (awE_ok j)
      have HS := Lib.hid (show awE (j + 1) = (awE j).1.mxEnter 0 1 from rfl)
      clear hP
      have hlt3 : (j : Int) < 3 := by omega
      generalize awE j = pr at *
      obtain ⟨r, d⟩ := pr
      dsimp only at *
      go_wp2_with fail
      refine (enter_run B _ _ _ nv r 0 1 _ HP.out (by have := HK.out.2; omega) HK.out.1.1 HK.out.1.2).mono ?_
      rintro e w4 ⟨rfl, hO, nv4, hP⟩
      have HJ4 : Hid (AwI w B b A' c' (awE (j + 1)).1 w4) := Lib.hid (by rw [HS.out]; exact HJ.out.next hO hP)
      clear hO hP HP
      go_wp2
      go_roundw
      case rel => exact ⟨j + 1, by omega, by go_num, by rw [HS.out], HJ4⟩
      case measure => simp [intOf]; omega
    · obtain rfl : 3 = j := by omega
      rw [aw_in] at *
      rw [show (((3 : Nat) : Int)) = 3 from rfl]
      obtain ⟨nv, hP⟩ := HJ.out.run
      have c5 : wr.cell? ⟨B, 5, none⟩ = some (.int .i64 (awE 3).1.line) := hP.row.cell_ (i := 5) rfl
      have f5 : wr.frozen? ⟨B, 5, none⟩ = false := hP.row.frozen 5
      have HI : Hid (AwI w B b A' c' (awG 0).1 (wr.setCell ⟨B, 5, none⟩ (.int .i64 6))) := Lib.hid (HJ.out.next ((Only.refl (TurnB B A') wr).setCell (p := ⟨B, 5, none⟩) (.inr (.inl rfl)) _) (hP.setLine 6))
      clear hP HJ
      go_upto_region 13 with (fail)
      clear c5 f5
      generalize wr.setCell ⟨B, 5, none⟩ (.int .i64 6) = w5 at *
      go_loopw [7, 9] (fun bv iv wr => ∃ j : Nat, j ≤ 2 ∧ iv = .int .i64 j ∧ bv = .bool (awG j).2 ∧ Hid (AwI w B b A' c' (awG j).1 wr)) (fun _ iv _ => 2 - (intOf iv).toNat)
      case atStart => exact ⟨0, Nat.zero_le _, rfl, rfl, HI⟩
      case round =>
        obtain ⟨j, hj, rfl, rfl, HJ⟩ := hrel
        clear HI
        by_cases hlt : j < 2
        · obtain ⟨nv, hP⟩ := HJ.out.run
          have HP := Lib.hid hP
          have HK := Lib.hid (awG_ok j)
          have HS := Lib.hid (show awG (j + 1) = (awG j).1.mxGive 0 6 [] from rfl)
          clear hP
          have hlt3 : (j : Int) < 2 := by omega
          generalize awG j = pr at *
          obtain ⟨r, d⟩ := pr
          dsimp only at *
          go_wp2_with fail
          refine (give_run B _ _ _ nv r 0 6 _ HP.out (by have := HK.out.2; omega) HK.out.1.1 HK.out.1.2 (.slice none 0 0) [] ⟨none, 0, rfl, fun _ _ i x h => by simp at h⟩ (by decide) (by decide) (by decide)).mono ?_
          rintro e w4 ⟨rfl, hO, nv4, hP⟩
          have HJ4 : Hid (AwI w B b A' c' (awG (j + 1)).1 w4) := Lib.hid (by rw [HS.out]; exact HJ.out.next hO hP)
          clear hO hP HP
          go_wp2
          go_roundw
          case rel => exact ⟨j + 1, by omega, by go_num, by rw [HS.out], HJ4⟩
          case measure => simp [intOf]; omega
        · obtain rfl : 2 = j := by omega
          rw [aw_out] at *
          obtain ⟨nv, hP⟩ := HJ.out.run
          have HO9 := Lib.hid HJ.out.only
          have HNEW := Lib.hid HJ.out.new
          rcases hP.memo with ⟨h, _⟩ | ⟨b', h, hm⟩
          · cases h
          · cases h
            have HME := Lib.hid hm
            clear hP hm HJ
            go_wp2_with fail
            refine (load_any b A' c' _ 0 _ HME.out).mono ?_
            rw [aw_word]
            rintro e w6 ⟨rfl, hO, _⟩
            have HO6 := Lib.hid (HO9.out.step hO (fun j hj e => by have := HNEW.out.2 j e; omega))
            clear hO
            go_wp2
            go_ret
            exact ⟨rfl, HO6.out⟩
end Go.Proofs.Ytaifeejciglkpaa
set_option linter.unusedVariables false
set_option linter.unusedSimpArgs false
namespace Go.Proofs.Ytaifeejciglkpaa
open Go.RowKit
theorem row_picks {w : World} {A : Option Addr} {n c : Nat} {l : List Int} (h : IsRow .u8 w A n c l) : ∀ i x, l[i]? = some x → ∃ b o, A = some ⟨b, o, none⟩ ∧ w.cell? ⟨b, o + i, none⟩ = some (.int .u8 x) := fun i x hx => by
  have hl := (List.getElem?_eq_some_iff.1 hx).1
  obtain ⟨b, o, e, _, hc⟩ := h.ints (by omega)
  refine ⟨b, o, e, ?_⟩
  have h1 := hc i hl
  rw [List.getD, hx] at h1
  exact h1
set_option maxHeartbeats 1000000 in
theorem walk_mutexPlay (a0 a1 : Int) (a2 : Option Addr) (n2 c2 : Nat) (z2 : List Int) (w : World) (h0 : (Lit.int .u8 a0).wf = true) (h1 : (Lit.int .i64 a1).wf = true) (h2 : IsRow .u8 w a2 n2 c2 z2) :
    Calls Try.prog 4 #[.int .u8 a0, .int .i64 a1, .slice a2 n2 c2] w fun e w' => e = .returned (.bool true) ∧ Only Nil w w' := by
  obtain ⟨n0, n1⟩ := wf_u8 h0
  obtain ⟨k, hkk⟩ : ∃ k : Nat, 1 + a0 % 8 = (k : Int) := ⟨(1 + a0 % 8).toNat, by omega⟩
  have HK := Lib.hid (show 1 ≤ k ∧ k ≤ 64 by omega)
  have HKK := Lib.hid hkk
  have HR := Lib.hid h2
  clear h0 h1 h2 hkk
  by_cases hn : n2 ≤ 600
  · go_enter Try.func4, Try.ntmps4
    go_wp2_with fail
    rw [HKK.out]
    refine (game_any k a1 a2 c2 z2 n2 _ HK.out HR.out.len_ (by omega) (fun x hx => wf_u8 (HR.out.wf x hx)) (row_picks HR.out)).mono ?_
    rintro e w1 ⟨TS, g, rfl, _, hO, _⟩
    have HO1 := Lib.hid hO
    clear hO
    go_wp2_with fail
    refine (awake_any _).mono ?_
    rintro e w2 ⟨rfl, hO⟩
    have HO2 := Lib.hid (HO1.out.trans hO)
    clear hO
    go_wp2
    go_ret
    exact ⟨rfl, HO2.out⟩
  · go_enter Try.func4, Try.ntmps4
    go_wp2_with fail
    refine (awake_any _).mono ?_
    rintro e w2 ⟨rfl, hO⟩
    have HO2 := Lib.hid hO
    clear hO
    go_wp2
    go_ret
    exact ⟨rfl, HO2.out⟩
end Go.Proofs.Ytaifeejciglkpaa
