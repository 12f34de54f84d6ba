/- The law's example. -/
import Derived.Test.YtjdgniconbocnaaWakeStep
import Derived.Test.YtjdgniconbocnaaWakeBegin
import Derived.Test.YtjdgniconbocnaaRow4
import Derived.Test.YtjdgniconbocnaaFrom
import Derived.Test.YtjdgniconbocnaaOpLoad
set_option linter.unusedVariables false
set_option linter.unusedSimpArgs false
namespace Go.Proofs.Ytjdgniconbocnaa
open Go.RowKit

/-- The example's words at first, and behind each step; the wake-up. -/
def exL : List Int := (List.replicate 16 0).set 13 1
def exM (k : Nat) : List Int := if k = 3 then exL.set 15 1 else exL
def exK (k : Nat) : WkV := if k = 0 then ⟨true, 0, 0, false⟩ else if k = 1 then ⟨true, 0, 1, false⟩ else if k = 2 then ⟨true, 0, 1, true⟩ else wk0

/-- The example's blocks, behind k steps. -/
structure AwF (w0 : World) (M K : Nat) (p A : Option Addr) (cp : Nat) (k : Nat) (kv : Array Value) (W : World) : Prop where
  only : Only Nil w0 W
  memo : Memo W p A cp (exM k)
  rm : Row W M 37 #[.int .i64 2]
  rk : Row W K 24 kv
  lt : ∀ j, At p j ∨ At A j → w0.heap.size ≤ j ∧ j < M
  hw : w0.heap.size ≤ M
  hmk : M < K

section
variable {w0 W W' : World} {M K : Nat} {p A : Option Addr} {cp k k' : Nat} {kv : Array Value}
theorem AwF.call (h : AwF w0 M K p A cp k kv W) (ho : Only (At A) W W') (hm : Memo W' p A cp (exM k')) : AwF w0 M K p A cp k' kv W' :=
  ⟨h.only.step ho (fun i hi e => by have := (h.lt i (.inr e)).1; omega), hm, h.rm.only ho (fun e => by have := (h.lt _ (.inr e)).2; omega), h.rk.only ho (fun e => by have := (h.lt _ (.inr e)).2; have := h.hmk; omega), h.lt, h.hw, h.hmk⟩
theorem AwF.keep (h : AwF w0 M K p A cp k kv W) (ho : Only Nil W W') : AwF w0 M K p A cp k kv W' := h.call (ho.mono (fun _ _ h => h.elim)) (h.memo.keep ho)
theorem AwF.setK {a0 a1 a2 a3 : Value} (h : AwF w0 M K p A cp k #[a0, a1, a2, a3] W) (v0 v1 v2 v3 : Value) :
    AwF w0 M K p A cp k #[v0, v1, v2, v3] ((((W.setCell ⟨K, 0, none⟩ v0).setCell ⟨K, 1, none⟩ v1).setCell ⟨K, 2, none⟩ v2).setCell ⟨K, 3, none⟩ v3) := by
  have ho := four_only (Only.refl (· = K) W) (g := K) (.inr rfl) v0 v1 v2 v3
  have := h.hmk
  exact ⟨four_only h.only (.inl (by have := h.hw; omega)) _ _ _ _, h.memo.far ho (fun j hj e => by have := h.lt j hj; omega), h.rm.only ho (fun e => by omega), four h.rk _ _ _ _, h.lt, h.hw, h.hmk⟩
end

set_option maxHeartbeats 400000 in
theorem awake_any (w : World) : Calls Try.prog 5 #[] w fun e w' => e = .returned (.bool true) ∧ Only Nil w w' := by
  go_enter Try.func5, Try.ntmps5
  go_wp2_with fail
  refine (first4_row 2 16 _ (by omega) (by rfl)).mono ?_
  intro e w1 hF
  obtain ⟨g, rfl, hg, hR, hO⟩ := hF
  have HO := Lib.hid hO
  have HG := Lib.hid hg
  have HR := Lib.hid hR
  have c13 : w1.cell? ⟨g, 13, none⟩ = some (.int .u32 0) := hR.cell (i := 13) (by decide)
  have f13 := hR.froz 13
  clear hO hR hg
  go_wp2_with fail
  have HO1 := Lib.hid (HO.out.setCell (p := ⟨g, 13, none⟩) (.inl HG.out) (.int .u32 1))
  have HR1 := Lib.hid (HR.out.set 13 1)
  clear HO HR c13 f13
  generalize w1.setCell ⟨g, 13, none⟩ (.int .u32 1) = w2 at *
  refine (from_ok (some ⟨g, 0, none⟩) 16 16 exL _ (by decide) (HR1.out.held (by decide) 16)).mono ?_
  intro e w3 hF
  obtain ⟨b, A', c', rfl, hb, hA, hM, hO⟩ := hF
  have HM := Lib.hid (Memo.of hM)
  have HO2 := Lib.hid (HO1.out.trans hO)
  have hlt : ∀ j, At (some (⟨b, 0, none⟩ : Addr)) j ∨ At A' j → w.heap.size ≤ j ∧ j < w3.heap.size := fun j hj => by
    have hz := HO1.out.size
    refine ⟨?_, HM.out.lt j hj⟩
    rcases hj with ⟨a, ha, rfl⟩ | hj
    · cases ha; show w.heap.size ≤ b; omega
    · have := hA j hj; omega
  have HLT := Lib.hid hlt
  clear hM hO hA hb hlt HO1 HR1
  have HMAP := Lib.hid (Row.new w3 37 #[.int .i64 2])
  have e0 := (Only.refl Nil w3).alloc (.cells #[.int .i64 2] 37)
  have HM1 := Lib.hid (HM.out.keep e0)
  have HO3 := Lib.hid (HO2.out.trans e0)
  have HZ := Lib.hid (show (w3.alloc (.cells #[.int .i64 2] 37)).heap.size = w3.heap.size + 1 by simp)
  have HW := Lib.hid HO2.out.size
  clear e0 HM HO2
  go_wp2_with fail
  generalize w3.alloc (.cells #[.int .i64 2] 37) = w4 at *
  generalize w3.heap.size = M at *
  refine (begin_any 2 0 _).mono ?_
  rw [beginI_2]
  rintro e w5 ⟨rfl, hO⟩
  dsimp only [WkV.v]
  have e0 := (Only.refl Nil w5).alloc (.cells #[.bool true, .int .i64 0, .int .i64 0, .bool false] 24)
  have HF0 : Hid (AwF w M w5.heap.size (some ⟨b, 0, none⟩) A' c' 0 #[.bool true, .int .i64 0, .int .i64 0, .bool false] (w5.alloc (.cells #[.bool true, .int .i64 0, .int .i64 0, .bool false] 24))) :=
    Lib.hid ⟨(HO3.out.trans hO).trans e0, (HM1.out.keep hO).keep e0, (HMAP.out.only hO id).only e0 id, Row.new _ _ _, HLT.out, HW.out, by have := hO.size; have := HZ.out; omega⟩
  clear e0 hO HO3 HM1 HMAP
  go_wp2_with fail
  generalize w5.alloc (.cells #[.bool true, .int .i64 0, .int .i64 0, .bool false] 24) = w6 at *
  generalize w5.heap.size = K at *
  go_loopw [7] (fun nv wr => ∃ k : Nat, k ≤ 3 ∧ nv = .int .i64 k ∧ AwF w M K (some ⟨b, 0, none⟩) A' c' k #[.bool (exK k).on, .int .i64 (exK k).c, .int .i64 (exK k).i, .bool (exK k).hit] wr) (fun nv _ => 3 - (intOf nv).toNat)
  case atStart => exact ⟨0, by omega, rfl, HF0.out⟩
  case round =>
    obtain ⟨k, hk, rfl, hF⟩ := hrel
    clear HF0
    have hcase : k = 0 ∨ k = 1 ∨ k = 2 ∨ k = 3 := by omega
    clear hk
    rcases hcase with rfl | rfl | rfl | rfl
    · rw [show exK 0 = ⟨true, 0, 0, false⟩ from rfl] at hF
      dsimp only at hF
      have HF := Lib.hid hF
      clear hF
      have a0 : wr.cell? ⟨K, 0, none⟩ = some (.bool true) := HF.out.rk.cell_ (i := 0) rfl
      have a1 : wr.cell? ⟨K, 1, none⟩ = some (.int .i64 0) := HF.out.rk.cell_ (i := 1) rfl
      have a2 : wr.cell? ⟨K, 2, none⟩ = some (.int .i64 0) := HF.out.rk.cell_ (i := 2) rfl
      have a3 : wr.cell? ⟨K, 3, none⟩ = some (.bool false) := HF.out.rk.cell_ (i := 3) rfl
      have f0 : wr.frozen? ⟨K, 0, none⟩ = false := HF.out.rk.frozen 0
      have f1 : wr.frozen? ⟨K, 1, none⟩ = false := HF.out.rk.frozen 1
      have f2 : wr.frozen? ⟨K, 2, none⟩ = false := HF.out.rk.frozen 2
      have f3 : wr.frozen? ⟨K, 3, none⟩ = false := HF.out.rk.frozen 3
      have m0 : wr.cell? ⟨M, 0, none⟩ = some (.int .i64 2) := HF.out.rm.cell_ (i := 0) rfl
      go_wp2_with fail
      clear a0 a1 a2 a3 f0 f1 f2 f3 m0
      refine (wstep_any (some ⟨b, 0, none⟩) A' c' (exM 0) 2 true 0 0 false _ HF.out.memo).mono ?_
      rw [show wakeI (exM 0) 2 true 0 0 false = ⟨⟨true, 0, 1, false⟩, .agg #[.int .i64 1, .int .i64 12, .int .u32 0, .int .u32 0, .int .u32 0], exM 1⟩ from by kernel_rfl]
      intro e w7 hF
      obtain ⟨rfl, hO, hM⟩ := hF
      dsimp only [WkV.v] at hM ⊢
      have HF2 := Lib.hid (HF.out.call hO hM)
      clear hO hM HF
      have a0 : w7.cell? ⟨K, 0, none⟩ = some (.bool true) := HF2.out.rk.cell_ (i := 0) rfl
      have a1 : w7.cell? ⟨K, 1, none⟩ = some (.int .i64 0) := HF2.out.rk.cell_ (i := 1) rfl
      have a2 : w7.cell? ⟨K, 2, none⟩ = some (.int .i64 0) := HF2.out.rk.cell_ (i := 2) rfl
      have a3 : w7.cell? ⟨K, 3, none⟩ = some (.bool false) := HF2.out.rk.cell_ (i := 3) rfl
      have f0 : w7.frozen? ⟨K, 0, none⟩ = false := HF2.out.rk.frozen 0
      have f1 : w7.frozen? ⟨K, 1, none⟩ = false := HF2.out.rk.frozen 1
      have f2 : w7.frozen? ⟨K, 2, none⟩ = false := HF2.out.rk.frozen 2
      have f3 : w7.frozen? ⟨K, 3, none⟩ = false := HF2.out.rk.frozen 3
      go_wp2
      clear a0 a1 a2 a3 f0 f1 f2 f3
      exact ⟨⟨1, by omega, rfl, HF2.out.setK (.bool true) (.int .i64 0) (.int .i64 1) (.bool false)⟩, by decide⟩
    · rw [show exK 1 = ⟨true, 0, 1, false⟩ from rfl] at hF
      dsimp only at hF
      have HF := Lib.hid hF
      clear hF
      have a0 : wr.cell? ⟨K, 0, none⟩ = some (.bool true) := HF.out.rk.cell_ (i := 0) rfl
      have a1 : wr.cell? ⟨K, 1, none⟩ = some (.int .i64 0) := HF.out.rk.cell_ (i := 1) rfl
      have a2 : wr.cell? ⟨K, 2, none⟩ = some (.int .i64 1) := HF.out.rk.cell_ (i := 2) rfl
      have a3 : wr.cell? ⟨K, 3, none⟩ = some (.bool false) := HF.out.rk.cell_ (i := 3) rfl
      have f0 : wr.frozen? ⟨K, 0, none⟩ = false := HF.out.rk.frozen 0
      have f1 : wr.frozen? ⟨K, 1, none⟩ = false := HF.out.rk.frozen 1
      have f2 : wr.frozen? ⟨K, 2, none⟩ = false := HF.out.rk.frozen 2
      have f3 : wr.frozen? ⟨K, 3, none⟩ = false := HF.out.rk.frozen 3
      have m0 : wr.cell? ⟨M, 0, none⟩ = some (.int .i64 2) := HF.out.rm.cell_ (i := 0) rfl
      go_wp2_with fail
      clear a0 a1 a2 a3 f0 f1 f2 f3 m0
      refine (wstep_any (some ⟨b, 0, none⟩) A' c' (exM 1) 2 true 0 1 false _ HF.out.memo).mono ?_
      rw [show wakeI (exM 1) 2 true 0 1 false = ⟨⟨true, 0, 1, true⟩, .agg #[.int .i64 1, .int .i64 13, .int .u32 0, .int .u32 0, .int .u32 1], exM 2⟩ from by kernel_rfl]
      intro e w7 hF
      obtain ⟨rfl, hO, hM⟩ := hF
      dsimp only [WkV.v] at hM ⊢
      have HF2 := Lib.hid (HF.out.call hO hM)
      clear hO hM HF
      have a0 : w7.cell? ⟨K, 0, none⟩ = some (.bool true) := HF2.out.rk.cell_ (i := 0) rfl
      have a1 : w7.cell? ⟨K, 1, none⟩ = some (.int .i64 0) := HF2.out.rk.cell_ (i := 1) rfl
      have a2 : w7.cell? ⟨K, 2, none⟩ = some (.int .i64 1) := HF2.out.rk.cell_ (i := 2) rfl
      have a3 : w7.cell? ⟨K, 3, none⟩ = some (.bool false) := HF2.out.rk.cell_ (i := 3) rfl
      have f0 : w7.frozen? ⟨K, 0, none⟩ = false := HF2.out.rk.frozen 0
      have f1 : w7.frozen? ⟨K, 1, none⟩ = false := HF2.out.rk.frozen 1
      have f2 : w7.frozen? ⟨K, 2, none⟩ = false := HF2.out.rk.frozen 2
      have f3 : w7.frozen? ⟨K, 3, none⟩ = false := HF2.out.rk.frozen 3
      go_wp2
      clear a0 a1 a2 a3 f0 f1 f2 f3
      exact ⟨⟨2, by omega, rfl, HF2.out.setK (.bool true) (.int .i64 0) (.int .i64 1) (.bool true)⟩, by decide⟩
    · rw [show exK 2 = ⟨true, 0, 1, true⟩ from rfl] at hF
      dsimp only at hF
      have HF := Lib.hid hF
      clear hF
      have a0 : wr.cell? ⟨K, 0, none⟩ = some (.bool true) := HF.out.rk.cell_ (i := 0) rfl
      have a1 : wr.cell? ⟨K, 1, none⟩ = some (.int .i64 0) := HF.out.rk.cell_ (i := 1) rfl
      have a2 : wr.cell? ⟨K, 2, none⟩ = some (.int .i64 1) := HF.out.rk.cell_ (i := 2) rfl
      have a3 : wr.cell? ⟨K, 3, none⟩ = some (.bool true) := HF.out.rk.cell_ (i := 3) rfl
      have f0 : wr.frozen? ⟨K, 0, none⟩ = false := HF.out.rk.frozen 0
      have f1 : wr.frozen? ⟨K, 1, none⟩ = false := HF.out.rk.frozen 1
      have f2 : wr.frozen? ⟨K, 2, none⟩ = false := HF.out.rk.frozen 2
      have f3 : wr.frozen? ⟨K, 3, none⟩ = false := HF.out.rk.frozen 3
      have m0 : wr.cell? ⟨M, 0, none⟩ = some (.int .i64 2) := HF.out.rm.cell_ (i := 0) rfl
      go_wp2_with fail
      clear a0 a1 a2 a3 f0 f1 f2 f3 m0
      refine (wstep_any (some ⟨b, 0, none⟩) A' c' (exM 2) 2 true 0 1 true _ HF.out.memo).mono ?_
      rw [show wakeI (exM 2) 2 true 0 1 true = ⟨⟨false, 0, 0, false⟩, .agg #[.int .i64 2, .int .i64 15, .int .u32 1, .int .u32 0, .int .u32 0], exM 3⟩ from by kernel_rfl]
      intro e w7 hF
      obtain ⟨rfl, hO, hM⟩ := hF
      dsimp only [WkV.v] at hM ⊢
      have HF2 := Lib.hid (HF.out.call hO hM)
      clear hO hM HF
      have a0 : w7.cell? ⟨K, 0, none⟩ = some (.bool true) := HF2.out.rk.cell_ (i := 0) rfl
      have a1 : w7.cell? ⟨K, 1, none⟩ = some (.int .i64 0) := HF2.out.rk.cell_ (i := 1) rfl
      have a2 : w7.cell? ⟨K, 2, none⟩ = some (.int .i64 1) := HF2.out.rk.cell_ (i := 2) rfl
      have a3 : w7.cell? ⟨K, 3, none⟩ = some (.bool true) := HF2.out.rk.cell_ (i := 3) rfl
      have f0 : w7.frozen? ⟨K, 0, none⟩ = false := HF2.out.rk.frozen 0
      have f1 : w7.frozen? ⟨K, 1, none⟩ = false := HF2.out.rk.frozen 1
      have f2 : w7.frozen? ⟨K, 2, none⟩ = false := HF2.out.rk.frozen 2
      have f3 : w7.frozen? ⟨K, 3, none⟩ = false := HF2.out.rk.frozen 3
      go_wp2
      clear a0 a1 a2 a3 f0 f1 f2 f3
      exact ⟨⟨3, by omega, rfl, HF2.out.setK (.bool false) (.int .i64 0) (.int .i64 0) (.bool false)⟩, by decide⟩
    · rw [show exK 3 = ⟨false, 0, 0, false⟩ from rfl] at hF
      dsimp only at hF
      have HF := Lib.hid hF
      clear hF
      have a0 : wr.cell? ⟨K, 0, none⟩ = some (.bool false) := HF.out.rk.cell_ (i := 0) rfl
      have a1 : wr.cell? ⟨K, 1, none⟩ = some (.int .i64 0) := HF.out.rk.cell_ (i := 1) rfl
      have a2 : wr.cell? ⟨K, 2, none⟩ = some (.int .i64 0) := HF.out.rk.cell_ (i := 2) rfl
      have a3 : wr.cell? ⟨K, 3, none⟩ = some (.bool false) := HF.out.rk.cell_ (i := 3) rfl
      go_wp2_with fail
      clear a0 a1 a2 a3
      refine (load_any b A' c' (exM 3) 15 _ HF.out.memo.mem).mono ?_
      rw [show wordAt (exM 3) 15 = 1 from by kernel_rfl]
      rintro e w7 ⟨rfl, hO, hM⟩
      have HF2 := Lib.hid (HF.out.call (k' := 3) hO (Memo.of hM))
      clear hO hM HF
      go_wp2_with fail
      refine (load_any b A' c' (exM 3) 14 _ HF2.out.memo.mem).mono ?_
      rw [show wordAt (exM 3) 14 = 0 from by kernel_rfl]
      rintro e w8 ⟨rfl, hO, hM⟩
      have HF3 := Lib.hid (HF2.out.call (k' := 3) hO (Memo.of hM))
      clear hO hM HF2
      go_wp2
      go_ret
      exact ⟨rfl, HF3.out.only⟩
end Go.Proofs.Ytjdgniconbocnaa
