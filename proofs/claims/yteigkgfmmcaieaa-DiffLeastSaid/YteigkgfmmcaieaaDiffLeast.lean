/- DiffLeast: contracts and the walk. -/
import Derived.Test.YteigkgfmmcaieaaDiffLaws
namespace Go.Proofs.Yteigkgfmmcaieaa
open Go.RowKit

/-- How far x is ahead of a, counted round. -/
def keyI (a x : Int) : Int := (x - a) % 4294967296
/-- The place of the first of the first k words that is least ahead of a; -1: there is none. -/
def best (a : Int) (xs : List Int) : Nat → Int
  | 0 => -1
  | k + 1 => if best a xs k < 0 ∨ keyI a (xs.getD k 0) < keyI a (xs.getD (best a xs k).toNat 0) then k else best a xs k

theorem best_bd (a : Int) (xs : List Int) (k : Nat) : (k = 0 ∧ best a xs k = -1) ∨ (0 < k ∧ 0 ≤ best a xs k ∧ best a xs k < k) := by
  induction k with
  | zero => exact .inl ⟨rfl, rfl⟩
  | succ k ih =>
    right
    simp only [best]
    split <;> omega

theorem key_any (a x : Int) (b : Nat) (w : World) (hc : w.cell? ⟨b, 0, none⟩ = some (.int .u32 a)) :
    Calls Try.prog 20 #[.int .u32 x, .pointer (some ⟨b, 0, none⟩)] w fun e w' => e = .returned (.int .u32 (keyI a x)) ∧ w = w' := by
  go_enter Try.func20, Try.ntmps20
  go_wp2
  go_ret
  exact ⟨rfl, rfl⟩
theorem key_quiet (a x : Int) (b : Nat) (w : World) (m k : Nat) (hc : w.cell? ⟨b, 0, none⟩ = some (.int .u32 a)) :
    Calls Try.prog 20 #[.int .u32 x, .pointer (some ⟨b, 0, none⟩)] (w.drewN (m + k)) fun e w' => e = .returned (.int .u32 (keyI a x)) ∧ ∃ j, w' = w.drewN (m + j) :=
  (key_any a x b (w.drewN (m + k)) (by simpa using hc)).mono fun _ _ ⟨he, hm⟩ => ⟨he, k, hm.symm⟩

set_option maxRecDepth 100000 in
set_option maxHeartbeats 1000000 in
theorem by_any (a : Int) (b : Nat) (A : Option Addr) (n cap B : Nat) (xs : List Int) (w : World) (hn : xs.length = n) (hx : Ints w B .u32 A xs) (hc : w.cell? ⟨b, 0, none⟩ = some (.int .u32 a)) (hm : n ≤ 100) :
    Calls Try.prog 19 #[.slice A n cap, .func (.func 20) #[] #[.pointer (some ⟨b, 0, none⟩)]] w fun e w' => e = .returned (.int .i64 (best a xs n)) ∧ Drew w w' := by
  have HX := Lib.hid hx
  have HN := Lib.hid hn
  have HC := Lib.hid hc
  clear hx hn hc
  go_enter Try.func19, Try.ntmps19
  go_wp2
  go_loopw [5, 10] (fun p i wr => ∃ k : Nat, k ≤ n ∧ i = .int .i64 k ∧ p = .int .i64 (best a xs k) ∧ ∃ m, wr = w.drewN m) (fun _ i _ => n - (intOf i).toNat)
  case atStart => exact ⟨0, Nat.zero_le _, rfl, rfl, 0, rfl⟩
  case round =>
    obtain ⟨k, hk, rfl, rfl, m, rfl⟩ := hrel
    have hb := best_bd a xs k
    by_cases hlt : k < n
    · obtain ⟨b1, o1, hA, _, hc1⟩ := HX.out (by rw [HN.out]; omega)
      subst hA
      have c1 := hc1 k (by rw [HN.out]; omega)
      rcases hb with ⟨hk0, h0⟩ | ⟨h0, h1, h2⟩
      · have H0 := Lib.hid h0
        have HK0 := Lib.hid hk0
        have HB := Lib.hid (show best a xs (k + 1) = k by simp only [best, h0]; simp)
        clear hc1 h0 hk0
        rw [H0.out]
        go_wp2
        go_quiet (fail)
        go_wp2
        exact ⟨⟨k + 1, by omega, by go_num, by rw [HB.out], _, rfl⟩, by simp [intOf]; omega⟩
      · have HB := Lib.hid (show best a xs (k + 1) = if (keyI a (xs.getD k 0) < keyI a (xs.getD (best a xs k).toNat 0)) then (k : Int) else best a xs k by
          have hf : ¬ best a xs k < 0 := by omega
          simp only [best, hf, false_or])
        generalize hp : best a xs k = p at *
        obtain ⟨q, rfl⟩ := Int.eq_ofNat_of_zero_le h1
        have c2 := hc1 q (by rw [HN.out]; omega)
        have HB' : Hid (best a xs (k + 1) = if keyI a (xs.getD k 0) < keyI a (xs.getD q 0) then (k : Int) else q) := HB
        have HP := Lib.hid hp
        clear hc1 hp h1
        have hqk : q < k := by omega
        clear h2
        generalize h3 : xs.getD k 0 = x at *
        generalize h4 : xs.getD q 0 = y at *
        clear h3 h4
        have hqn : q < n := by omega
        have hq0 : decide ((q : Int) < 0) = false := by simp
        go_wp2
        have f := HC.out
        go_quiet ((exact key_quiet _ _ _ _ _ _ f))
        have HC' := Lib.hid f
        clear f HB
        by_cases hxy : keyI a x < keyI a y
        · go_wp2
          exact ⟨⟨k + 1, by omega, by go_num, by rw [HB'.out, if_pos hxy], _, rfl⟩, by simp [intOf]; omega⟩
        · go_wp2
          exact ⟨⟨k + 1, by omega, by go_num, by rw [HB'.out, if_neg hxy], _, rfl⟩, by simp [intOf]; omega⟩
    · obtain rfl : k = n := by omega
      clear hlt hk
      go_wp2
      go_ret
      exact ⟨rfl, Drew.n _ _⟩

theorem least_any (a : Int) (A : Option Addr) (n cap : Nat) (xs : List Int) (w : World) (hx : IsRow .u32 w A n cap xs) (hm : n ≤ 100) :
    Calls Try.prog 11 #[.int .u32 a, .slice A n cap] w fun e w' => e = .returned (.int .i64 (best a xs n)) ∧ Only Nil w w' := by
  have HX := Lib.hid (hx.ints.alloc (Nat.le_refl _) (Obj.cells #[.int .u32 a] 22))
  have HN := Lib.hid hx.len_
  have HC := Lib.hid ((Row.new w 22 #[.int .u32 a]).cell_ (i := 0) rfl)
  clear hx
  go_enter Try.func11, Try.ntmps11
  go_wp2_with fail
  refine (by_any a _ A n cap _ xs _ HN.out HX.out HC.out hm).mono ?_
  rintro e w1 ⟨rfl, hd⟩
  have HD := Lib.hid hd
  clear hd
  go_wp2
  go_ret
  exact ⟨rfl, ((Only.refl Nil w).alloc _).trans HD.out.only⟩

/-- How far the best one is. -/
def farI (a : Int) (xs : List Int) (k : Nat) : Int := if best a xs k < 0 then 0 else keyI a (xs.getD (best a xs k).toNat 0)
theorem far_next (a : Int) (xs : List Int) (k : Nat) : farI a xs (k + 1) = if best a xs k < 0 ∨ keyI a (xs.getD k 0) < farI a xs k then keyI a (xs.getD k 0) else farI a xs k := by
  have hb := best_bd a xs k
  unfold farI
  simp only [best]
  by_cases h : best a xs k < 0
  · simp only [h, true_or, if_true]
    have : ¬ (k : Int) < 0 := by omega
    simp [this]
  · simp only [h, false_or, if_false]
    split
    · have : ¬ (k : Int) < 0 := by omega
      simp [this]
    · simp [h]
theorem best_next (a : Int) (xs : List Int) (k : Nat) : best a xs (k + 1) = if best a xs k < 0 ∨ keyI a (xs.getD k 0) < farI a xs k then (k : Int) else best a xs k := by
  unfold farI
  simp only [best]
  by_cases h : best a xs k < 0
  · simp [h]
  · simp [h]
theorem key_bd (a x : Int) : 0 ≤ keyI a x ∧ keyI a x < 4294967296 := by unfold keyI; omega
theorem far_bd (a : Int) (xs : List Int) (k : Nat) : 0 ≤ farI a xs k ∧ farI a xs k < 4294967296 := by
  unfold farI
  split
  · omega
  · exact key_bd _ _

set_option maxHeartbeats 1000000 in
theorem rleast_any (a : Int) (A : Option Addr) (n cap : Nat) (xs : List Int) (w : World) (hx : IsRow .u32 w A n cap xs) (ha : 0 ≤ a ∧ a < 4294967296) (hm : n ≤ 100) :
    Calls Try.prog 12 #[.int .u32 a, .slice A n cap] w fun e w' => e = .returned (.int .i64 (best a xs n)) ∧ w = w' := by
  have HX := Lib.hid hx.ints
  have HN := Lib.hid hx.len_
  have HW := Lib.hid hx.wf
  obtain ⟨a1, a2⟩ := ha
  clear hx
  go_enter Try.func12, Try.ntmps12
  go_wp2
  go_loop [5, 6, 7] (fun p f i => ∃ k : Nat, k ≤ n ∧ i = .int .i64 k ∧ p = .int .i64 (best a xs k) ∧ f = .int .i64 (farI a xs k)) (fun _ _ i => n - (intOf i).toNat)
  case atStart => exact ⟨0, Nat.zero_le _, rfl, rfl, rfl⟩
  case round =>
    obtain ⟨k, hk, rfl, rfl, rfl⟩ := hrel
    have hb := best_bd a xs k
    obtain ⟨f1, f2⟩ := far_bd a xs k
    have HF := Lib.hid (far_next a xs k)
    have HB := Lib.hid (best_next a xs k)
    by_cases hlt : k < n
    · obtain ⟨b1, o1, hA, _, hc1⟩ := HX.out (by rw [HN.out]; omega)
      subst hA
      have c1 := hc1 k (by rw [HN.out]; omega)
      have hw := wf_u32 (HW.out (xs.getD k 0) (by
        have hl : k < xs.length := by rw [HN.out]; exact hlt
        simp [List.getD, List.getElem?_eq_getElem hl]))
      have HK := Lib.hid (show (xs.getD k 0 - a + 4294967296) % 4294967296 = keyI a (xs.getD k 0) by unfold keyI; omega)
      generalize h3 : xs.getD k 0 = x at *
      generalize h4 : keyI a x = y at *
      generalize h5 : best a xs k = p at *
      generalize h6 : farI a xs k = g at *
      clear hc1 h3 h4 h5 h6
      obtain ⟨x1, x2⟩ := hw
      by_cases hp : p < 0
      · have hpy : p < 0 ∨ y < g := .inl hp
        go_wp2
        exact ⟨⟨k + 1, by omega, by go_num, by rw [HB.out, if_pos hpy], by rw [HF.out, if_pos hpy, HK.out]⟩, by simp [intOf]; omega⟩
      · by_cases hxy : (x - a + 4294967296) % 4294967296 < g
        · have hpy : p < 0 ∨ y < g := .inr (HK.out ▸ hxy)
          have HPY := Lib.hid hpy
          clear hpy
          go_wp2
          exact ⟨⟨k + 1, by omega, by go_num, by rw [HB.out, if_pos HPY.out], by rw [HF.out, if_pos HPY.out, HK.out]⟩, by simp [intOf]; omega⟩
        · have hpy : ¬ (p < 0 ∨ y < g) := by
            rintro (h | h)
            · exact hp h
            · exact hxy (HK.out ▸ h)
          have HPY := Lib.hid hpy
          clear hpy
          go_wp2
          exact ⟨⟨k + 1, by omega, by go_num, by rw [HB.out, if_neg HPY.out], by rw [HF.out, if_neg HPY.out]⟩, by simp [intOf]; omega⟩
    · obtain rfl : k = n := by omega
      clear hlt hk
      go_wp2
      go_ret
      exact ⟨rfl, rfl⟩

theorem isRow_only {k : IntKind} {w w' : World} {A : Option Addr} {n cap : Nat} {xs : List Int} (h : IsRow k w A n cap xs) (ho : Only Nil w w') : IsRow k w' A n cap xs :=
  ⟨h.len_, h.nil, (h.ints.only ho (Nat.le_refl _) (fun _ _ => id)).more ho.size, h.wf⟩
theorem only_below {w w' : World} (h : Only Nil w w') : Below w.heap.size w w' := Only.below h (Nat.le_refl _) (fun _ _ h => h)

theorem walk_diffLeast (a : Int) (A : Option Addr) (n cap : Nat) (xs : List Int) (w : World) (wa : (Lit.int .u32 a).wf = true) (hx : IsRow .u32 w A n cap xs) :
    Calls Try.prog 5 #[.int .u32 a, .slice A n cap] w fun e w' => e = .returned (.bool true) ∧ Below w.heap.size w w' := by
  have ha := wf_u32 wa
  have HA := Lib.hid ha
  have HX := Lib.hid hx
  clear wa ha hx
  by_cases hm : n ≤ 100
  · have hm' : (n : Int) ≤ 100 := by omega
    go_enter Try.func5, Try.ntmps5
    go_wp2_with fail
    refine (least_any a A n cap xs _ HX.out hm).mono ?_
    rintro e w1 ⟨rfl, hd⟩
    have HD1 := Lib.hid hd
    clear hd
    go_wp2_with fail
    refine (rleast_any a A n cap xs _ (isRow_only HX.out HD1.out) HA.out hm).mono ?_
    rintro e w2 ⟨rfl, rfl⟩
    go_wp2_with fail
    refine (awake_any _).mono ?_
    rintro e w3 ⟨rfl, hd⟩
    have HD3 := Lib.hid hd
    clear hd
    go_wp2
    go_ret
    exact ⟨rfl, only_below (HD1.out.trans HD3.out.only)⟩
  · have hm' : 100 < (n : Int) := by omega
    go_enter Try.func5, Try.ntmps5
    go_wp2_with fail
    refine (awake_any _).mono ?_
    rintro e w3 ⟨rfl, hd⟩
    have HD3 := Lib.hid hd
    clear hd
    go_wp2
    go_ret
    exact ⟨rfl, only_below HD3.out.only⟩
end Go.Proofs.Yteigkgfmmcaieaa
