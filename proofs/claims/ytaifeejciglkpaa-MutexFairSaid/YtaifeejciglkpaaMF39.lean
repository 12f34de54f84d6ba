import Derived.Test.YtaifeejciglkpaaChecked
import Derived.Laws.AppendOwn
import Derived.OwnWalk
import Derived.Deep.OwnRows
import Derived.Test.YtaifeejciglkpaaMF23
import Derived.Test.YtaifeejciglkpaaMF24
import Derived.Test.YtaifeejciglkpaaMF25
import Derived.Test.YtaifeejciglkpaaMF26
import Derived.Test.YtaifeejciglkpaaMF27
import Derived.Test.YtaifeejciglkpaaMF28
import Derived.Test.YtaifeejciglkpaaMF29
import Derived.Test.YtaifeejciglkpaaMF30
import Derived.Test.YtaifeejciglkpaaMF31
import Derived.Test.YtaifeejciglkpaaMF32
import Derived.Test.YtaifeejciglkpaaMF33
import Derived.Test.YtaifeejciglkpaaMF34
import Derived.Test.YtaifeejciglkpaaMF35
import Derived.Test.YtaifeejciglkpaaMF36
import Derived.Test.YtaifeejciglkpaaMF37
import Derived.Test.YtaifeejciglkpaaMF38
import Derived.Test.YtaifeejciglkpaaMF22
import Derived.Test.YtaifeejciglkpaaMF1
import Derived.Test.YtaifeejciglkpaaMF21
set_option linter.unusedVariables false
namespace Go.Proofs.Ytaifeejciglkpaa
open Go.RowKit
theorem fairs_1_1 : ∀ t, t < 3 → ∃ n, n ≤ 60 ∧ fairB 1 1 t n = true
  | 0, _ => ⟨5, by decide, fair_1_1_0⟩
  | 1, _ => ⟨5, by decide, fair_1_1_1⟩
  | 2, _ => ⟨5, by decide, fair_1_1_2⟩
  | n + 3, h => by omega
theorem fairs_2_1 : ∀ t, t < 6 → ∃ n, n ≤ 120 ∧ fairB 2 1 t n = true
  | 0, _ => ⟨9, by decide, fair_2_1_0⟩
  | 1, _ => ⟨7, by decide, fair_2_1_1⟩
  | 2, _ => ⟨9, by decide, fair_2_1_2⟩
  | 3, _ => ⟨8, by decide, fair_2_1_3⟩
  | 4, _ => ⟨13, by decide, fair_2_1_4⟩
  | 5, _ => ⟨8, by decide, fair_2_1_5⟩
  | n + 6, h => by omega
theorem fairs_3_1 : ∀ t, t < 3 → ∃ n, n ≤ 180 ∧ fairB 3 1 t n = true
  | 0, _ => ⟨15, by decide, fair_3_1_0⟩
  | 1, _ => ⟨11, by decide, fair_3_1_1⟩
  | 2, _ => ⟨11, by decide, fair_3_1_2⟩
  | n + 3, h => by omega
theorem fairs_4_1 : ∀ t, t < 12 → ∃ n, n ≤ 240 ∧ fairB 4 1 t n = true
  | 0, _ => ⟨16, by decide, fair_4_1_0⟩
  | 1, _ => ⟨14, by decide, fair_4_1_1⟩
  | 2, _ => ⟨14, by decide, fair_4_1_2⟩
  | 3, _ => ⟨16, by decide, fair_4_1_3⟩
  | 4, _ => ⟨13, by decide, fair_4_1_4⟩
  | 5, _ => ⟨13, by decide, fair_4_1_5⟩
  | 6, _ => ⟨13, by decide, fair_4_1_6⟩
  | 7, _ => ⟨14, by decide, fair_4_1_7⟩
  | 8, _ => ⟨17, by decide, fair_4_1_8⟩
  | 9, _ => ⟨11, by decide, fair_4_1_9⟩
  | 10, _ => ⟨15, by decide, fair_4_1_10⟩
  | 11, _ => ⟨16, by decide, fair_4_1_11⟩
  | n + 12, h => by omega
theorem fairs_5_1 : ∀ t, t < 15 → ∃ n, n ≤ 300 ∧ fairB 5 1 t n = true
  | 0, _ => ⟨19, by decide, fair_5_1_0⟩
  | 1, _ => ⟨17, by decide, fair_5_1_1⟩
  | 2, _ => ⟨15, by decide, fair_5_1_2⟩
  | 3, _ => ⟨19, by decide, fair_5_1_3⟩
  | 4, _ => ⟨17, by decide, fair_5_1_4⟩
  | 5, _ => ⟨19, by decide, fair_5_1_5⟩
  | 6, _ => ⟨17, by decide, fair_5_1_6⟩
  | 7, _ => ⟨14, by decide, fair_5_1_7⟩
  | 8, _ => ⟨17, by decide, fair_5_1_8⟩
  | 9, _ => ⟨17, by decide, fair_5_1_9⟩
  | 10, _ => ⟨26, by decide, fair_5_1_10⟩
  | 11, _ => ⟨18, by decide, fair_5_1_11⟩
  | 12, _ => ⟨15, by decide, fair_5_1_12⟩
  | 13, _ => ⟨18, by decide, fair_5_1_13⟩
  | 14, _ => ⟨16, by decide, fair_5_1_14⟩
  | n + 15, h => by omega
theorem fairs_6_1 : ∀ t, t < 6 → ∃ n, n ≤ 360 ∧ fairB 6 1 t n = true
  | 0, _ => ⟨25, by decide, fair_6_1_0⟩
  | 1, _ => ⟨21, by decide, fair_6_1_1⟩
  | 2, _ => ⟨20, by decide, fair_6_1_2⟩
  | 3, _ => ⟨24, by decide, fair_6_1_3⟩
  | 4, _ => ⟨20, by decide, fair_6_1_4⟩
  | 5, _ => ⟨21, by decide, fair_6_1_5⟩
  | n + 6, h => by omega
theorem fairs_7_1 : ∀ t, t < 21 → ∃ n, n ≤ 420 ∧ fairB 7 1 t n = true
  | 0, _ => ⟨25, by decide, fair_7_1_0⟩
  | 1, _ => ⟨22, by decide, fair_7_1_1⟩
  | 2, _ => ⟨22, by decide, fair_7_1_2⟩
  | 3, _ => ⟨25, by decide, fair_7_1_3⟩
  | 4, _ => ⟨23, by decide, fair_7_1_4⟩
  | 5, _ => ⟨28, by decide, fair_7_1_5⟩
  | 6, _ => ⟨23, by decide, fair_7_1_6⟩
  | 7, _ => ⟨29, by decide, fair_7_1_7⟩
  | 8, _ => ⟨31, by decide, fair_7_1_8⟩
  | 9, _ => ⟨23, by decide, fair_7_1_9⟩
  | 10, _ => ⟨23, by decide, fair_7_1_10⟩
  | 11, _ => ⟨32, by decide, fair_7_1_11⟩
  | 12, _ => ⟨24, by decide, fair_7_1_12⟩
  | 13, _ => ⟨24, by decide, fair_7_1_13⟩
  | 14, _ => ⟨36, by decide, fair_7_1_14⟩
  | 15, _ => ⟨23, by decide, fair_7_1_15⟩
  | 16, _ => ⟨27, by decide, fair_7_1_16⟩
  | 17, _ => ⟨27, by decide, fair_7_1_17⟩
  | 18, _ => ⟨24, by decide, fair_7_1_18⟩
  | 19, _ => ⟨23, by decide, fair_7_1_19⟩
  | 20, _ => ⟨24, by decide, fair_7_1_20⟩
  | n + 21, h => by omega
theorem fairs_8_1 : ∀ t, t < 24 → ∃ n, n ≤ 480 ∧ fairB 8 1 t n = true
  | 0, _ => ⟨28, by decide, fair_8_1_0⟩
  | 1, _ => ⟨27, by decide, fair_8_1_1⟩
  | 2, _ => ⟨27, by decide, fair_8_1_2⟩
  | 3, _ => ⟨28, by decide, fair_8_1_3⟩
  | 4, _ => ⟨24, by decide, fair_8_1_4⟩
  | 5, _ => ⟨27, by decide, fair_8_1_5⟩
  | 6, _ => ⟨28, by decide, fair_8_1_6⟩
  | 7, _ => ⟨26, by decide, fair_8_1_7⟩
  | 8, _ => ⟨28, by decide, fair_8_1_8⟩
  | 9, _ => ⟨26, by decide, fair_8_1_9⟩
  | 10, _ => ⟨28, by decide, fair_8_1_10⟩
  | 11, _ => ⟨27, by decide, fair_8_1_11⟩
  | 12, _ => ⟨24, by decide, fair_8_1_12⟩
  | 13, _ => ⟨31, by decide, fair_8_1_13⟩
  | 14, _ => ⟨28, by decide, fair_8_1_14⟩
  | 15, _ => ⟨28, by decide, fair_8_1_15⟩
  | 16, _ => ⟨31, by decide, fair_8_1_16⟩
  | 17, _ => ⟨27, by decide, fair_8_1_17⟩
  | 18, _ => ⟨27, by decide, fair_8_1_18⟩
  | 19, _ => ⟨31, by decide, fair_8_1_19⟩
  | 20, _ => ⟨26, by decide, fair_8_1_20⟩
  | 21, _ => ⟨28, by decide, fair_8_1_21⟩
  | 22, _ => ⟨28, by decide, fair_8_1_22⟩
  | 23, _ => ⟨28, by decide, fair_8_1_23⟩
  | n + 24, h => by omega
theorem fairs_1_2 : ∀ t, t < 3 → ∃ n, n ≤ 60 ∧ fairB 1 2 t n = true
  | 0, _ => ⟨5, by decide, fair_1_2_0⟩
  | 1, _ => ⟨5, by decide, fair_1_2_1⟩
  | 2, _ => ⟨5, by decide, fair_1_2_2⟩
  | n + 3, h => by omega
theorem fairs_2_2 : ∀ t, t < 6 → ∃ n, n ≤ 120 ∧ fairB 2 2 t n = true
  | 0, _ => ⟨9, by decide, fair_2_2_0⟩
  | 1, _ => ⟨10, by decide, fair_2_2_1⟩
  | 2, _ => ⟨9, by decide, fair_2_2_2⟩
  | 3, _ => ⟨9, by decide, fair_2_2_3⟩
  | 4, _ => ⟨16, by decide, fair_2_2_4⟩
  | 5, _ => ⟨9, by decide, fair_2_2_5⟩
  | n + 6, h => by omega
theorem fairs_3_2 : ∀ t, t < 3 → ∃ n, n ≤ 180 ∧ fairB 3 2 t n = true
  | 0, _ => ⟨23, by decide, fair_3_2_0⟩
  | 1, _ => ⟨13, by decide, fair_3_2_1⟩
  | 2, _ => ⟨21, by decide, fair_3_2_2⟩
  | n + 3, h => by omega
theorem fairs_4_2 : ∀ t, t < 12 → ∃ n, n ≤ 240 ∧ fairB 4 2 t n = true
  | 0, _ => ⟨36, by decide, fair_4_2_0⟩
  | 1, _ => ⟨32, by decide, fair_4_2_1⟩
  | 2, _ => ⟨30, by decide, fair_4_2_2⟩
  | 3, _ => ⟨30, by decide, fair_4_2_3⟩
  | 4, _ => ⟨32, by decide, fair_4_2_4⟩
  | 5, _ => ⟨29, by decide, fair_4_2_5⟩
  | 6, _ => ⟨32, by decide, fair_4_2_6⟩
  | 7, _ => ⟨31, by decide, fair_4_2_7⟩
  | 8, _ => ⟨32, by decide, fair_4_2_8⟩
  | 9, _ => ⟨31, by decide, fair_4_2_9⟩
  | 10, _ => ⟨32, by decide, fair_4_2_10⟩
  | 11, _ => ⟨30, by decide, fair_4_2_11⟩
  | n + 12, h => by omega
theorem fairs_5_2 : ∀ t, t < 15 → ∃ n, n ≤ 300 ∧ fairB 5 2 t n = true
  | 0, _ => ⟨51, by decide, fair_5_2_0⟩
  | 1, _ => ⟨40, by decide, fair_5_2_1⟩
  | 2, _ => ⟨44, by decide, fair_5_2_2⟩
  | 3, _ => ⟨43, by decide, fair_5_2_3⟩
  | 4, _ => ⟨40, by decide, fair_5_2_4⟩
  | 5, _ => ⟨49, by decide, fair_5_2_5⟩
  | 6, _ => ⟨43, by decide, fair_5_2_6⟩
  | 7, _ => ⟨39, by decide, fair_5_2_7⟩
  | 8, _ => ⟨43, by decide, fair_5_2_8⟩
  | 9, _ => ⟨43, by decide, fair_5_2_9⟩
  | 10, _ => ⟨64, by decide, fair_5_2_10⟩
  | 11, _ => ⟨43, by decide, fair_5_2_11⟩
  | 12, _ => ⟨44, by decide, fair_5_2_12⟩
  | 13, _ => ⟨44, by decide, fair_5_2_13⟩
  | 14, _ => ⟨44, by decide, fair_5_2_14⟩
  | n + 15, h => by omega
theorem fairs_6_2 : ∀ t, t < 6 → ∃ n, n ≤ 360 ∧ fairB 6 2 t n = true
  | 0, _ => ⟨64, by decide, fair_6_2_0⟩
  | 1, _ => ⟨57, by decide, fair_6_2_1⟩
  | 2, _ => ⟨55, by decide, fair_6_2_2⟩
  | 3, _ => ⟨67, by decide, fair_6_2_3⟩
  | 4, _ => ⟨53, by decide, fair_6_2_4⟩
  | 5, _ => ⟨55, by decide, fair_6_2_5⟩
  | n + 6, h => by omega
theorem fairs_7_2 : ∀ t, t < 21 → ∃ n, n ≤ 420 ∧ fairB 7 2 t n = true
  | 0, _ => ⟨75, by decide, fair_7_2_0⟩
  | 1, _ => ⟨72, by decide, fair_7_2_1⟩
  | 2, _ => ⟨69, by decide, fair_7_2_2⟩
  | 3, _ => ⟨67, by decide, fair_7_2_3⟩
  | 4, _ => ⟨68, by decide, fair_7_2_4⟩
  | 5, _ => ⟨69, by decide, fair_7_2_5⟩
  | 6, _ => ⟨67, by decide, fair_7_2_6⟩
  | 7, _ => ⟨77, by decide, fair_7_2_7⟩
  | 8, _ => ⟨70, by decide, fair_7_2_8⟩
  | 9, _ => ⟨68, by decide, fair_7_2_9⟩
  | 10, _ => ⟨68, by decide, fair_7_2_10⟩
  | 11, _ => ⟨62, by decide, fair_7_2_11⟩
  | 12, _ => ⟨70, by decide, fair_7_2_12⟩
  | 13, _ => ⟨70, by decide, fair_7_2_13⟩
  | 14, _ => ⟨114, by decide, fair_7_2_14⟩
  | 15, _ => ⟨69, by decide, fair_7_2_15⟩
  | 16, _ => ⟨69, by decide, fair_7_2_16⟩
  | 17, _ => ⟨64, by decide, fair_7_2_17⟩
  | 18, _ => ⟨71, by decide, fair_7_2_18⟩
  | 19, _ => ⟨68, by decide, fair_7_2_19⟩
  | 20, _ => ⟨67, by decide, fair_7_2_20⟩
  | n + 21, h => by omega
theorem fairs_8_2 : ∀ t, t < 24 → ∃ n, n ≤ 480 ∧ fairB 8 2 t n = true
  | 0, _ => ⟨91, by decide, fair_8_2_0⟩
  | 1, _ => ⟨79, by decide, fair_8_2_1⟩
  | 2, _ => ⟨84, by decide, fair_8_2_2⟩
  | 3, _ => ⟨85, by decide, fair_8_2_3⟩
  | 4, _ => ⟨81, by decide, fair_8_2_4⟩
  | 5, _ => ⟨84, by decide, fair_8_2_5⟩
  | 6, _ => ⟨82, by decide, fair_8_2_6⟩
  | 7, _ => ⟨81, by decide, fair_8_2_7⟩
  | 8, _ => ⟨90, by decide, fair_8_2_8⟩
  | 9, _ => ⟨84, by decide, fair_8_2_9⟩
  | 10, _ => ⟨83, by decide, fair_8_2_10⟩
  | 11, _ => ⟨84, by decide, fair_8_2_11⟩
  | 12, _ => ⟨83, by decide, fair_8_2_12⟩
  | 13, _ => ⟨81, by decide, fair_8_2_13⟩
  | 14, _ => ⟨85, by decide, fair_8_2_14⟩
  | 15, _ => ⟨83, by decide, fair_8_2_15⟩
  | 16, _ => ⟨94, by decide, fair_8_2_16⟩
  | 17, _ => ⟨86, by decide, fair_8_2_17⟩
  | 18, _ => ⟨84, by decide, fair_8_2_18⟩
  | 19, _ => ⟨85, by decide, fair_8_2_19⟩
  | 20, _ => ⟨82, by decide, fair_8_2_20⟩
  | 21, _ => ⟨82, by decide, fair_8_2_21⟩
  | 22, _ => ⟨82, by decide, fair_8_2_22⟩
  | 23, _ => ⟨79, by decide, fair_8_2_23⟩
  | n + 24, h => by omega
def turnsL (k : Nat) : Nat := [1, 3, 6, 3, 12, 15, 6, 21, 24].getD k 1
theorem fairs (k : Nat) (hk : 1 ≤ k ∧ k ≤ 8) (mode : Int) (hm : mode = 1 ∨ mode = 2) (t : Nat) (ht : t < turnsL k) : ∃ n, n ≤ 60 * k ∧ fairB k mode t n = true := by
  obtain ⟨h0, h1⟩ := hk
  rcases hm with rfl | rfl
  · match k, h0, h1 with
    | 1, _, _ => exact fairs_1_1 t ht
    | 2, _, _ => exact fairs_2_1 t ht
    | 3, _, _ => exact fairs_3_1 t ht
    | 4, _, _ => exact fairs_4_1 t ht
    | 5, _, _ => exact fairs_5_1 t ht
    | 6, _, _ => exact fairs_6_1 t ht
    | 7, _, _ => exact fairs_7_1 t ht
    | 8, _, _ => exact fairs_8_1 t ht
    | k + 9, _, h => omega
  · match k, h0, h1 with
    | 1, _, _ => exact fairs_1_2 t ht
    | 2, _, _ => exact fairs_2_2 t ht
    | 3, _, _ => exact fairs_3_2 t ht
    | 4, _, _ => exact fairs_4_2 t ht
    | 5, _, _ => exact fairs_5_2 t ht
    | 6, _, _ => exact fairs_6_2 t ht
    | 7, _, _ => exact fairs_7_2 t ht
    | 8, _, _ => exact fairs_8_2 t ht
    | k + 9, _, h => omega
end Go.Proofs.Ytaifeejciglkpaa
set_option linter.unusedVariables false
set_option linter.unusedSimpArgs false
namespace Go.Proofs.Ytaifeejciglkpaa
open Go.RowKit
theorem seeI_true (x : Int) : seeI x = true := by
  cases x <;> exact Nat.ble_eq_true_of_le (Nat.zero_le _)
theorem seeS_true (t : Nat) (S : List TS × List Int) : seeS t S = true := by
  unfold seeS
  cases S.1[t]? with
  | none => rfl
  | some T =>
    show seeT T = true
    unfold seeT
    rw [seeI_true, seeI_true, seeI_true, seeI_true, seeI_true, seeI_true, seeI_true, Bool.or_true, Bool.or_true]
    rfl
theorem playS_cons (k : Nat) (mode : Int) (t : Nat) (l : List Nat) (S : List TS × List Int) : playS k mode (t :: l) S = playS k mode l (pickS k mode S t) := by
  show (if seeS t (pickS k mode S t) then _ else _) = _
  rw [if_pos (seeS_true _ _)]
theorem play_proj {k : Nat} {mode m' : Int} (hk : k ≤ 64) (hm : AlikeM mode m') (l : List Nat) : ∀ {g g' : GV}, MuOK k mode g → (∀ t ∈ l, t < k) → playG l g = some g' → playS k m' l (projG k g) = projG k g' := by
  induction l with
  | nil => intro g g' _ _ h; cases h; rfl
  | cons t l ih =>
    intro g g' hok hl h
    have ht := hl t (by simp)
    obtain ⟨g1, hg1, hok1⟩ := mu_next hk hok ht
    have h2 : playG l g1 = some g' := by
      have h3 : (g.pick t).bind (playG l) = some g' := h
      rw [hg1] at h3
      exact h3
    obtain ⟨m, q, s, hi⟩ := hok
    rw [playS_cons, pick_proj ht (hi.cst t ht) hm hg1]
    exact ih hok1 (fun u hu => hl u (by simp [hu])) h2
theorem first_proj (k : Nat) (mode : Int) : projG k (firstG k mode (List.replicate (8 + 4 * k) 0)) = firstT k := by
  refine Prod.ext ?_ rfl
  show (List.range k).map (tsOf _) = List.replicate k _
  apply List.ext_getElem?
  intro i
  rw [List.getElem?_map, List.getElem?_replicate]
  by_cases h : i < k
  · rw [List.getElem?_range h, if_pos h]
    rfl
  · rw [if_neg h, List.getElem?_eq_none (by rw [List.length_range]; omega)]
    rfl
theorem oneT_lt {k : Nat} (hk : 0 < k) (turn r i : Nat) : oneT k turn r i < k := Nat.mod_lt _ hk
theorem roundT_lt {k : Nat} (hk : 0 < k) (turn r : Nat) : ∀ t ∈ roundT k turn r, t < k := by
  intro t ht
  unfold roundT at ht
  rw [List.mem_append] at ht
  rcases ht with ht | ht
  · obtain ⟨i, _, rfl⟩ := List.mem_map.1 ht
    exact oneT_lt hk _ _ _
  · exact List.mem_range.1 ht
theorem roundsT_lt {k : Nat} (hk : 0 < k) (turn : Nat) : ∀ n r, ∀ t ∈ roundsT k turn n r, t < k
  | 0, r => fun t h => by simp [roundsT] at h
  | n + 1, r => fun t h => by
    rw [roundsT, List.mem_append] at h
    rcases h with h | h
    · exact roundT_lt hk _ _ t h
    · exact roundsT_lt hk turn n (r + 1) t h
theorem roundsT_add (k turn : Nat) (m : Nat) : ∀ n r, roundsT k turn (n + m) r = roundsT k turn n r ++ roundsT k turn m (r + n)
  | 0, r => by rw [Nat.zero_add]; rfl
  | n + 1, r => by
    rw [show n + 1 + m = (n + m) + 1 by omega, roundsT, roundsT, roundsT_add k turn m n (r + 1), List.append_assoc, show r + 1 + n = r + (n + 1) by omega]
theorem oneT_mod {k L turn : Nat} (h3 : 3 ∣ L) (hk : k ∣ L) (r i : Nat) : oneT k (turn % L) r i = oneT k turn r i := by
  unfold oneT
  rw [Nat.mod_mod_of_dvd turn h3]
  have e : (r * (turn % L)) % k = (r * turn) % k := by
    rw [Nat.mul_mod, Nat.mod_mod_of_dvd turn hk, ← Nat.mul_mod]
  rw [Nat.add_mod (i * (1 + turn % 3) + r * (turn % L)), Nat.add_mod (i * (1 + turn % 3)), e, ← Nat.add_mod (i * (1 + turn % 3)), ← Nat.add_mod (i * (1 + turn % 3) + r * turn)]
theorem roundsT_mod {k L turn : Nat} (h3 : 3 ∣ L) (hk : k ∣ L) : ∀ n r, roundsT k (turn % L) n r = roundsT k turn n r
  | 0, r => rfl
  | n + 1, r => by
    rw [roundsT, roundsT, roundsT_mod h3 hk n (r + 1)]
    congr 1
    unfold roundT
    congr 1
    exact List.map_congr_left (fun i _ => oneT_mod h3 hk r i)
theorem turnsL_dvd (k : Nat) (hk : 1 ≤ k ∧ k ≤ 8) : 3 ∣ turnsL k ∧ k ∣ turnsL k := by
  obtain ⟨h0, h1⟩ := hk
  match k, h0, h1 with
  | 1, _, _ => decide
  | 2, _, _ => decide
  | 3, _, _ => decide
  | 4, _, _ => decide
  | 5, _, _ => decide
  | 6, _, _ => decide
  | 7, _, _ => decide
  | 8, _, _ => decide
  | k + 9, _, h => omega
theorem mu_fair {k : Nat} (hk : 1 ≤ k ∧ k ≤ 8) (mode : Int) (turn : Nat) {g : GV} (h : playG (roundsT k turn (60 * k) 0) (firstG k mode (List.replicate (8 + 4 * k) 0)) = some g) : ∀ i, i < k → 2 ≤ g.times i := by
  have hk0 : 0 < k := hk.1
  have hk64 : k ≤ 64 := by omega
  obtain ⟨d3, dk⟩ := turnsL_dvd k hk
  have hL : 0 < turnsL k := by
    rcases Nat.eq_zero_or_pos (turnsL k) with e | e
    · match k, hk.1, hk.2 with
      | 1, _, _ => exact absurd e (by decide)
      | 2, _, _ => exact absurd e (by decide)
      | 3, _, _ => exact absurd e (by decide)
      | 4, _, _ => exact absurd e (by decide)
      | 5, _, _ => exact absurd e (by decide)
      | 6, _, _ => exact absurd e (by decide)
      | 7, _, _ => exact absurd e (by decide)
      | 8, _, _ => exact absurd e (by decide)
      | k + 9, _, h => omega
    · exact e
  obtain ⟨m', hm', hal⟩ : ∃ m' : Int, (m' = 1 ∨ m' = 2) ∧ AlikeM mode m' := by
    by_cases e : mode = 2
    · exact ⟨2, .inr rfl, .inl e⟩
    · exact ⟨1, .inl rfl, .inr ⟨e, by decide⟩⟩
  obtain ⟨n, hn, hf⟩ := fairs k hk m' hm' (turn % turnsL k) (Nat.mod_lt _ hL)
  unfold fairB at hf
  rw [roundsT_mod d3 dk] at hf
  have hok : MuOK k mode (firstG k mode (List.replicate (8 + 4 * k) 0)) := ⟨_, _, _, mu_first mode (by simp) (fun x hx => List.eq_of_mem_replicate hx)⟩
  obtain ⟨g1, e1, h1, _⟩ := mu_play hk64 (roundsT k turn n 0) hok (roundsT_lt hk0 turn n 0)
  have hp := play_proj hk64 hal (roundsT k turn n 0) hok (roundsT_lt hk0 turn n 0) e1
  rw [first_proj] at hp
  rw [hp] at hf
  have hsplit : roundsT k turn (60 * k) 0 = roundsT k turn n 0 ++ roundsT k turn (60 * k - n) n := by
    have e := roundsT_add k turn (60 * k - n) n 0
    rw [show n + (60 * k - n) = 60 * k by omega, Nat.zero_add] at e
    exact e
  obtain ⟨g2, e2, _, o2⟩ := mu_times hk64 hok (roundsT_lt hk0 turn n 0) (roundsT_lt hk0 turn (60 * k - n) n) e1
  rw [hsplit, e2] at h
  obtain rfl := Option.some.inj h
  intro i hi
  have hT : tsOf g1 i ∈ (projG k g1).1 := List.mem_map.2 ⟨i, List.mem_range.2 hi, rfl⟩
  have h2 := of_decide_eq_true (List.all_eq_true.1 hf _ hT)
  have h3 := o2 i
  have h4 : (2 : Int) ≤ g1.times i := h2
  omega
end Go.Proofs.Ytaifeejciglkpaa
set_option linter.unusedVariables false
set_option linter.unusedSimpArgs false
namespace Go.Proofs.Ytaifeejciglkpaa
open Go.RowKit
def OwnU (base : Nat) (w : World) (v : Value) (l : List Nat) : Prop := w.ownsRow base 5 1 v l.length (l.map fun (t : Nat) => Value.int .u8 (t : Int))
theorem infoU8 : (Try.prog.info? 5).map (fun i => (i.zero, i.size, i.bytes)) = some (some (.int .u8 0), 1, 1) := by kernel_rfl
theorem ownU_nil (base : Nat) (w : World) : OwnU base w (.slice none 0 0) [] := World.ownsRow_nil _ _ _ _
theorem ownU_form {base : Nat} {w : World} {v : Value} {l : List Nat} (h : OwnU base w v l) : ∃ A c, v = .slice A l.length c ∧ ∀ (i : Nat) (t : Nat), l[i]? = some t → ∃ g, A = some ⟨g, 0, none⟩ ∧ w.cell? ⟨g, 0 + i, none⟩ = some (.int .u8 (t : Int)) := by
  rcases h.2 with ⟨rfl, hn⟩ | ⟨g, cap, cur, rfl, _⟩
  · obtain rfl := List.eq_nil_of_length_eq_zero hn
    exact ⟨none, 0, rfl, fun i t h => by simp at h⟩
  · refine ⟨_, _, rfl, fun i t hi => ⟨g, rfl, ?_⟩⟩
    have e := World.ownsRow.cells h (g := g) rfl i (.int .u8 (t : Int)) (by rw [List.getElem?_map, hi]; rfl)
    rwa [add_at] at e
theorem wp_appU {w : World} {ops : Array Oper} {rest : List Oper} {o : Oper} {a : Act} {Q : Exit → Act → World → Prop} (hgd : o.guard = none) (s x : Operand)
    (ho : o.op = .call { callee := .builtin .append, args := #[s, x], argTypes := #[59, 59] })
    (base : Nat) (v : Value) (l : List Nat) (hs : a.eval s = v) (hown : OwnU base w v l)
    (g t : Nat) (hx : a.eval x = .slice (some ⟨g, 0, none⟩) 1 1) (hrow : Row w g 5 #[.int .u8 (t : Int)])
    (h1 : l.length ≤ 100000) (hbase : base ≤ w.heap.size)
    (h : ∀ v' w', OwnU base w' v' (l ++ [t]) → Only (fun k => v.ownBlock = some k) w w' → wpList Try.prog ops Q rest (a.put o.dst v') w') : wpList Try.prog ops Q (o :: rest) a w := by
  obtain ⟨i0, hi, hz0, hz1, hz2⟩ := info_parts infoU8
  refine wpList_append_own w hgd s x 59 ho base 5 i0 (.int .u8 0) 1 1 Try.underlying59 hi hz0 hz1 hz2 rfl (by decide) v l.length _ hs hown ⟨g, 0, none⟩ 1 1 [.int .u8 (t : Int)] hx rfl (fun j u hj => ?_) (fun u hu => ?_) (by unfold maxLen; omega) (by omega) hbase (fun v' w' hO hG _ => ?_)
  · rw [add_at, Nat.zero_add]
    exact hrow.cell_ (by rw [← hj]; simp)
  · simp only [List.mem_cons, List.not_mem_nil, or_false] at hu
    subst hu
    rfl
  · refine h v' w' ?_ ((Only.refl _ w).grown hG (fun k hk => .inr hk))
    unfold OwnU
    rw [List.length_append, List.map_append]
    exact hO
end Go.Proofs.Ytaifeejciglkpaa
set_option linter.unusedVariables false
set_option linter.unusedSimpArgs false
namespace Go.Proofs.Ytaifeejciglkpaa
open Go.RowKit
structure Gat (w0 : World) (pv : Value) (l : List Nat) (W : World) : Prop where
  own : OwnU w0.heap.size W pv l
  only : Only Nil w0 W
theorem Gat.more {w0 W W' : World} {pv pv' : Value} {l : List Nat} {t : Nat} {o : Obj} (h : Gat w0 pv l W) (hown : OwnU w0.heap.size W' pv' (l ++ [t])) (ho : Only (fun q => pv.ownBlock = some q) (W.alloc o) W') : Gat w0 pv' (l ++ [t]) W' :=
  ⟨hown, (h.only.alloc o).step ho (fun i hi e => by have := (World.ownsRow.lt h.own _ e).1; omega)⟩
theorem roundsT_len (k turn : Nat) : ∀ n r, (roundsT k turn n r).length = n * (2 * k)
  | 0, r => by rw [Nat.zero_mul]; rfl
  | n + 1, r => by
    rw [roundsT, List.length_append, roundsT_len k turn n (r + 1)]
    unfold roundT
    rw [List.length_append, List.length_map, List.length_range, Nat.add_mul n 1, Nat.one_mul]
    omega
theorem roundsT_succ (k turn n : Nat) : roundsT k turn (n + 1) 0 = roundsT k turn n 0 ++ roundT k turn n := by
  have e := roundsT_add k turn 1 n 0
  rw [Nat.zero_add] at e
  rw [e]
  congr 1
  exact List.append_nil _
theorem picks_nat {k : Nat} : ∀ l : List Nat, (∀ t ∈ l, t < k) → picksT k (l.map fun (t : Nat) => (t : Int)) = l
  | [], _ => rfl
  | t :: l, h => by
    have ht : t < k := h t (by simp)
    have e := picks_nat l (fun u hu => h u (by simp [hu]))
    unfold picksT at e ⊢
    rw [List.map_cons, List.map_cons, e]
    congr 1
    rw [Int.emod_eq_of_lt (by omega) (by omega)]
    rfl
theorem take_map {f : Nat → Nat} {k i : Nat} (hi : i < k) : ((List.range k).map f).take (i + 1) = ((List.range k).map f).take i ++ [f i] := by
  rw [List.take_add_one, List.getElem?_map, List.getElem?_range hi]
  rfl
set_option maxRecDepth 100000 in
set_option maxHeartbeats 4000000 in
theorem walk_mutexFair (a0 a1 a2 : Int) (w : World) (h0 : (Lit.int .u8 a0).wf = true) (h1 : (Lit.int .i64 a1).wf = true) (h2 : (Lit.int .u8 a2).wf = true) :
    Calls Try.prog 5 #[.int .u8 a0, .int .i64 a1, .int .u8 a2] w fun e w' => e = .returned (.bool true) ∧ Only Nil w w' := by
  obtain ⟨n0, n1⟩ := wf_u8 h0
  obtain ⟨t0, t1⟩ := wf_u8 h2
  obtain ⟨k, hkk⟩ : ∃ k : Nat, 1 + a0 % 8 = (k : Int) := ⟨(1 + a0 % 8).toNat, by omega⟩
  obtain ⟨turn, rfl⟩ : ∃ turn : Nat, a2 = (turn : Int) := ⟨a2.toNat, by omega⟩
  have HK := Lib.hid (show 1 ≤ k ∧ k ≤ 8 by omega)
  have hk1 : (1 : Int) ≤ k := by omega
  have hk2 : (k : Int) ≤ 8 := by omega
  have HKK := Lib.hid hkk
  have HG0 : Hid (Gat w (.slice none 0 0) (roundsT k turn 0 0) w) := Lib.hid ⟨ownU_nil _ _, Only.refl _ _⟩
  clear h0 h1 h2 hkk
  go_enter Try.func5, Try.ntmps5
  go_upto_region 4 with (fail)
  rw [HKK.out]
  clear HKK n0 n1
  go_loopw [8, 9] (fun pv rv wr => ∃ r : Nat, r ≤ 60 * k ∧ rv = .int .i64 r ∧ Hid (Gat w pv (roundsT k turn r 0) wr)) (fun _ rv _ => 60 * k - (intOf rv).toNat)
  case atStart => exact ⟨0, Nat.zero_le _, rfl, HG0⟩
  case round =>
    obtain ⟨r, hr, rfl, HG⟩ := hrel
    clear HG0
    by_cases hlt : r < 60 * k
    · have hr3 : (r : Int) < 60 * k := by omega
      have hr4 : r < 480 := by have := HK.out; omega
      have HI0 := Lib.hid (show Gat w _ (roundsT k turn r 0 ++ ((List.range k).map (oneT k turn r)).take 0) wr by rw [List.take_zero, List.append_nil]; exact HG.out)
      have HRL := Lib.hid (show (roundsT k turn r 0).length ≤ 10000 by rw [roundsT_len]; exact Nat.le_trans (Nat.mul_le_mul (show r ≤ 480 by omega) (show 2 * k ≤ 16 by omega)) (by decide))
      clear HG
      go_upto_region 7 with (fail)
      go_loopw [8, 10] (fun pv iv wr => ∃ i : Nat, i ≤ k ∧ iv = .int .i64 i ∧ Hid (Gat w pv (roundsT k turn r 0 ++ ((List.range k).map (oneT k turn r)).take i) wr)) (fun _ iv _ => k - (intOf iv).toNat)
      case atStart => exact ⟨0, Nat.zero_le _, rfl, HI0⟩
      case round =>
        obtain ⟨i, hi, rfl, HI⟩ := hrel
        clear HI0
        by_cases hli : i < k
        · obtain ⟨Z, cz, hpv, _⟩ := ownU_form HI.out.own
          obtain ⟨o, ho⟩ : ∃ o, oneT k turn r i = o := ⟨_, rfl⟩
          have hok : o < k := by rw [← ho]; exact oneT_lt (by omega) _ _ _
          obtain ⟨A, hA⟩ : ∃ A : Nat, i * (1 + turn % 3) = A := ⟨_, rfl⟩
          have hA9 : A ≤ 8 * 3 := by rw [← hA]; exact Nat.mul_le_mul (by omega) (by omega)
          obtain ⟨Bv, hB⟩ : ∃ Bv : Nat, r * turn = Bv := ⟨_, rfl⟩
          have hB9 : Bv ≤ 480 * 255 := by rw [← hB]; exact Nat.mul_le_mul (by omega) (by omega)
          have hAi : (i : Int) * (1 + (turn : Int) % 3) = (A : Int) := by rw [← hA]; push_cast; rfl
          have hBi : (r : Int) * (turn : Int) = (Bv : Int) := by rw [← hB]; push_cast; rfl
          have hO : ((A : Int) + Bv + (i : Int) / 2).tmod k = (o : Int) := by
            rw [Int.tmod_eq_emod_of_nonneg (by omega), ← ho]
            unfold oneT
            rw [hA, hB]
            push_cast
            rfl
          have HTK := Lib.hid (take_map (f := oneT k turn r) hli)
          have HOO := Lib.hid ho
          have hk0 : ¬ (k : Int) = 0 := by omega
          clear hA hB ho
          have HOWN := Lib.hid (own_only HI.out.own ((Only.refl Nil wr).alloc (.cells #[.int .u8 (o : Int)] 5)) (fun _ _ => id))
          have HNEW := Lib.hid (Row.new wr 5 #[.int .u8 (o : Int)])
          have HBASE := Lib.hid ((HI.out.only.alloc (.cells #[.int .u8 (o : Int)] 5)).size)
          have HLB := Lib.hid (show (roundsT k turn r 0 ++ ((List.range k).map (oneT k turn r)).take i).length ≤ 100000 by
            have := HRL.out
            rw [List.length_append, List.length_take, List.length_map, List.length_range]
            omega)
          generalize hll : roundsT k turn r 0 ++ ((List.range k).map (oneT k turn r)).take i = ll at *
          have HLL := Lib.hid hll
          clear hll
          generalize ll.length = nl at hpv
          subst hpv
          go_wp2_with (at_builtin; refine wp_appU rfl (.tmp 30) (.tmp 48) rfl w.heap.size _ ll (by rfl) HOWN.out wr.heap.size o (by rfl) HNEW.out HLB.out HBASE.out ?_)
          intro v5 w5 hown hO5
          have HI5 : Hid (Gat w v5 (roundsT k turn r 0 ++ ((List.range k).map (oneT k turn r)).take (i + 1)) w5) := Lib.hid (by rw [HTK.out, HOO.out, ← List.append_assoc, HLL.out]; exact HI.out.more hown hO5)
          clear hown hO5 HI HOWN HNEW HBASE HLB hAi hBi hO
          go_wp2
          go_roundw
          case rel => exact ⟨i + 1, by omega, by go_num, HI5⟩
          case measure => simp [intOf]; omega
        · obtain rfl : k = i := by omega
          have HJ0 := Lib.hid (show Gat w _ ((roundsT k turn r 0 ++ (List.range k).map (oneT k turn r)) ++ List.range 0) wr by
            have h := HI.out
            rw [List.take_of_length_le (by rw [List.length_map, List.length_range]; exact Nat.le_refl _)] at h
            rw [List.range_zero, List.append_nil]
            exact h)
          clear HI
          go_upto_region 11 with (fail)
          go_loopw [8, 11] (fun pv iv wr => ∃ i : Nat, i ≤ k ∧ iv = .int .i64 i ∧ Hid (Gat w pv ((roundsT k turn r 0 ++ (List.range k).map (oneT k turn r)) ++ List.range i) wr)) (fun _ iv _ => k - (intOf iv).toNat)
          case atStart => exact ⟨0, Nat.zero_le _, rfl, HJ0⟩
          case round =>
            obtain ⟨i, hi, rfl, HI⟩ := hrel
            clear HJ0
            by_cases hli : i < k
            · obtain ⟨Z, cz, hpv, _⟩ := ownU_form HI.out.own
              have hi9 : (i : Int) < 8 := by omega
              have HOWN := Lib.hid (own_only HI.out.own ((Only.refl Nil wr).alloc (.cells #[.int .u8 (i : Int)] 5)) (fun _ _ => id))
              have HNEW := Lib.hid (Row.new wr 5 #[.int .u8 (i : Int)])
              have HBASE := Lib.hid ((HI.out.only.alloc (.cells #[.int .u8 (i : Int)] 5)).size)
              have HLB := Lib.hid (show ((roundsT k turn r 0 ++ (List.range k).map (oneT k turn r)) ++ List.range i).length ≤ 100000 by
                have := HRL.out
                rw [List.length_append, List.length_append, List.length_range, List.length_map, List.length_range]
                omega)
              generalize hll : (roundsT k turn r 0 ++ (List.range k).map (oneT k turn r)) ++ List.range i = ll at *
              have HLL := Lib.hid hll
              clear hll
              generalize ll.length = nl at hpv
              subst hpv
              go_wp2_with (at_builtin; refine wp_appU rfl (.tmp 55) (.tmp 58) rfl w.heap.size _ ll (by rfl) HOWN.out wr.heap.size i (by rfl) HNEW.out HLB.out HBASE.out ?_)
              intro v5 w5 hown hO5
              have HI5 : Hid (Gat w v5 ((roundsT k turn r 0 ++ (List.range k).map (oneT k turn r)) ++ List.range (i + 1)) w5) := Lib.hid (by rw [List.range_succ, ← List.append_assoc, HLL.out]; exact HI.out.more hown hO5)
              clear hown hO5 HI HOWN HNEW HBASE HLB
              go_wp2
              go_roundw
              case rel => exact ⟨i + 1, by omega, by go_num, HI5⟩
              case measure => simp [intOf]; omega
            · obtain rfl : k = i := by omega
              have HG5 := Lib.hid (show Gat w _ (roundsT k turn (r + 1) 0) wr by
                rw [roundsT_succ]
                unfold roundT
                rw [← List.append_assoc]
                exact HI.out)
              clear HI
              go_wp2
              go_roundw
              case rel => exact ⟨r + 1, by omega, by go_num, HG5⟩
              case measure => simp [intOf]; omega
    · obtain rfl : 60 * k = r := by omega
      obtain ⟨Z, cz, hpv, hcells⟩ := ownU_form HG.out.own
      have HPX := Lib.hid hcells
      have HON := Lib.hid HG.out.only
      have hlen : (roundsT k turn (60 * k) 0).length = 60 * k * (2 * k) := roundsT_len _ _ _ _
      have HLN := Lib.hid hlen
      have HL9 := Lib.hid (show 60 * k * (2 * k) ≤ 65536 from Nat.le_trans (Nat.mul_le_mul (show 60 * k ≤ 480 by omega) (show 2 * k ≤ 16 by omega)) (by decide))
      rw [hlen] at hpv
      subst hpv
      clear hcells hlen HG
      generalize 60 * k * (2 * k) = nl at *
      go_wp2_with fail
      refine (game_any k a1 Z cz ((roundsT k turn (60 * k) 0).map fun (t : Nat) => (t : Int)) nl _ ⟨by have := HK.out; omega, by have := HK.out; omega⟩ (by rw [List.length_map]; exact HLN.out) HL9.out (fun x hx => ?_) (fun i x hx => ?_)).mono ?_
      · obtain ⟨t, ht, rfl⟩ := List.mem_map.1 hx
        have := roundsT_lt (k := k) (by have := HK.out; omega) turn _ _ t ht
        omega
      · rw [List.getElem?_map] at hx
        obtain ⟨t, ht, rfl⟩ := Option.map_eq_some_iff.1 hx
        obtain ⟨g, hg, hc⟩ := HPX.out i t ht
        exact ⟨g, 0, hg, hc⟩
      · rintro e w5 ⟨TS, g, rfl, hpl, hO, htm⟩
        rw [picks_nat _ (roundsT_lt (by have := HK.out; omega) turn _ _)] at hpl
        have HF := Lib.hid (mu_fair HK.out a1 turn hpl)
        have HTM := Lib.hid htm
        have HO5 := Lib.hid (HON.out.trans hO)
        clear hpl hO htm
        go_upto_region 16 with (fail)
        go_loop [14] (fun iv => ∃ i : Nat, i ≤ k ∧ iv = .int .i64 i) (fun iv => k - (intOf iv).toNat)
        case atStart => exact ⟨0, Nat.zero_le _, rfl⟩
        case round =>
          obtain ⟨i, hi, rfl⟩ := hrel
          by_cases hli : i < k
          · have ct := HTM.out i hli
            have h2 := HF.out i hli
            generalize g.times i = tv at *
            have h2' : ¬ tv < 2 := by omega
            go_wp2
            go_round
            case rel => exact ⟨i + 1, by omega, by go_num⟩
            case measure => simp [intOf]; omega
          · obtain rfl : k = i := by omega
            go_wp2_with fail
            refine (awake_any _).mono ?_
            rintro e w6 ⟨rfl, hO⟩
            have HO6 := Lib.hid (HO5.out.trans hO)
            clear hO
            go_wp2
            go_ret
            exact ⟨rfl, HO6.out⟩
end Go.Proofs.Ytaifeejciglkpaa
