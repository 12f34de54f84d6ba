import Derived.Test.YtlepokgagickmaaGreatG44
import Derived.Test.YtlepokgagickmaaGreatG16
set_option linter.unusedVariables false
set_option linter.unusedSimpArgs false
namespace Go.Proofs.YtlepokgagickmaaGreat
open Go.RowKit
def IsPicksL (w : World) (A : Option Addr) (len : Nat) : Prop := len ≤ maxLen ∧ IsPicks w A len
theorem isPicksL_of {H : Type} {enc : TypeId × Value → H} {w : World} {base : Nat} {spare : Nat → Bool} {held : Bool} {fuel len cap : Nat} {A : Option Addr} {x : DataW H × List MemPlace}
    (h : DataW.trod enc Tryz.prog w base spare held fuel 23 [.slice A len cap] = some x) : IsPicksL w A len := by
  refine ⟨?_, isPicks_of h⟩
  rcases Go.Deep.open_slice Tryz.underlying23 h with ⟨hcs, _⟩ | ⟨a, len', cap', m, n, D, Pl, hcs, _, hl, hc, _⟩
  · simp only [List.cons.injEq, Value.slice.injEq] at hcs
    omega
  · simp only [List.cons.injEq, Value.slice.injEq, and_true] at hcs
    obtain ⟨rfl, rfl, rfl⟩ := hcs
    omega
theorem woPick_nil (t o : Int) (W : World) : Calls Tryz.prog 10 #[.pointer none, .agg #[.int .i64 t, .int .i64 o]] W fun e w' => e = .returned (.agg #[.bool false, .int .i64 0, .int .i64 0, .int .u32 0, .int .u32 0, .int .u32 0, .slice none 0 0]) ∧ Only Nil W w' := by
  have HH := Lib.hid (woHas_nil t)
  go_enter Tryz.func10, Tryz.ntmps10
  go_upto_region 1 with (fail)
  have e0 := ((Only.refl Nil W).alloc (.cells #[.int .i64 t, .int .i64 o] 39)).alloc (.cells (evCs false acc0 (.slice none 0 0)) 36)
  have HO := Lib.hid e0
  have HP := Lib.hid ((Row.new W 39 #[.int .i64 t, .int .i64 o]).alloc (.cells (evCs false acc0 (.slice none 0 0)) 36))
  have HE := Lib.hid (Row.new2 W (.cells #[.int .i64 t, .int .i64 o] 39) 36 (evCs false acc0 (.slice none 0 0)))
  have HB := Lib.hid (show ∀ V : World, V = W → V.heap.size ≤ W.heap.size + 1 from fun _ h => h ▸ Nat.le_succ _)
  unfold evCs acc0 at e0 HO HP HE
  clear e0
  generalize (W.alloc _).alloc _ = w1 at *
  generalize W.heap.size + 1 = E at *
  generalize W.heap.size = P at *
  have p0 : w1.cell? ⟨P, 0, none⟩ = some (.int .i64 t) := HP.out.cell_ (i := 0) rfl
  go_wp2_with fail
  refine (HH.out _).mono ?_
  rintro e w2 ⟨rfl, rfl⟩
  go_wp2_with (refine wp_storeR rfl 36 (.tmp 4) (.tmp 10) rfl (by rfl) (by rfl) HE.out (by kernel_rfl) (Nat.le_refl 7) (by kernel_rfl) ?_)
  rw [putL_all (by rfl)]
  exact post_row Tryz.results10 (by rfl) (HE.out.setRow _) Tryz.underlying36 rfl (by kernel_rfl) rfl ⟨rfl, HO.out.setRow (.inl (HB.out W rfl)) _⟩
theorem woState_nil (W : World) : Calls Tryz.prog 15 #[.pointer none] W fun e w' => e = .returned (.agg #[.int .i64 0, .int .i64 0, .int .i64 0, .slice none 0 0, .slice none 0 0]) ∧ Only Nil W w' := by
  go_enter Tryz.func15, Tryz.ntmps15
  go_upto_region 1 with (fail)
  go_wp2_with (refine wp_storeR rfl 47 (.tmp 2) (.tmp 5) rfl (by rfl) (by rfl) (Row.new W _ _) (by kernel_rfl) (Nat.le_refl 5) (by kernel_rfl) ?_)
  rw [putL_all (by rfl)]
  exact post_row Tryz.results15 (by rfl) ((Row.new W _ _).setRow _) Tryz.underlying47 rfl (by kernel_rfl) rfl ⟨rfl, ((Only.refl Nil W).alloc _).setRow (.inl (Nat.le_refl _)) _⟩
theorem woRuns_nil (A0 : Option Addr) (n cap : Nat) (l : List (Int × Int)) (W : World) (hn : l.length = n) (hm : n ≤ maxLen) (hp : ∀ w', Only Nil W w' → PicksIn w' A0 l) :
    Calls Tryz.prog 21 #[.pointer none, .slice A0 n cap] W fun e w' => ∃ A c, e = .returned (.slice A 0 c) ∧ Only Nil W w' := by
  have HP := Lib.hid hp
  have HM := Lib.hid hn
  have q0 : (n : Int) ≤ 9223372036854775807 := by unfold maxLen at hm; omega
  clear hp hm hn
  have hf := ev_notes
  go_enter Tryz.func21, Tryz.ntmps21
  go_wp2_with fail
  go_loopw [5, 10] (fun nv iv wr => ∃ i : Nat, i ≤ n ∧ iv = .int .i64 i ∧ OwnN W.heap.size wr nv [] ∧ Only Nil W wr) (fun _ iv _ => n - (intOf iv).toNat)
  case atStart => exact ⟨0, Nat.zero_le _, rfl, ownN_nil _ _, Only.refl _ _⟩
  case round =>
    obtain ⟨i, hi, rfl, hN, hO⟩ := hrel
    obtain ⟨A1, c1, rfl, _⟩ := hN.list
    have HR := Lib.hid (And.intro hN hO)
    rw [show ([] : List Nt).length = 0 from rfl] at *
    clear hN hO
    by_cases hlt : i < n
    · obtain ⟨p, hp⟩ : ∃ p, l[i]? = some p := ⟨_, List.getElem?_eq_getElem (by rw [HM.out]; exact hlt)⟩
      obtain ⟨pb, pq, rfl, c0, c1⟩ := HP.out _ HR.out.2 i p hp
      obtain ⟨t, o⟩ := p
      dsimp only at c0 c1
      have HLT := Lib.hid hlt
      have q1 : (i : Int) < n := by omega
      clear hp hi
      go_wp2_with fail
      have e1 := (Only.refl Nil wr).alloc (.cells #[.int .i64 t, .int .i64 o] 39)
      refine (woPick_nil t o _).mono ?_
      rintro e w2 ⟨rfl, hO2⟩
      have HN2 := Lib.hid (OwnN.only HR.out.1 (e1.trans hO2))
      have HO2 := Lib.hid (HR.out.2.trans (e1.trans hO2))
      have hf2 := fun w => ev_notes false acc0 none 0 0 w
      unfold acc0 at hf2
      dsimp only at hf2
      clear hO2 e1 HR c0 c1
      go_wp2_with (at_builtin; refine wp_appNs rfl (.tmp 14) (.tmp 18) rfl W.heap.size _ [] rfl HN2.out _ [] rfl (ownN_nil 0 _) (Nat.zero_le _) (Nat.zero_le _) HO2.out.size ?_)
      intro v' w3 hv ho
      have HV := Lib.hid (And.intro hv (HO2.out.step ho (fun i hi e => by have := (HN2.out.lt i e).1; omega)))
      clear hv ho
      go_wp2
      go_roundw
      case rel => exact ⟨i + 1, by have := HLT.out; omega, by go_num, HV.out.1, HV.out.2⟩
      case measure => have := HLT.out; simp [intOf]; omega
    · obtain rfl : i = n := by omega
      go_wp2
      go_ret
      exact ⟨_, _, rfl, HR.out.2⟩
end Go.Proofs.YtlepokgagickmaaGreat
