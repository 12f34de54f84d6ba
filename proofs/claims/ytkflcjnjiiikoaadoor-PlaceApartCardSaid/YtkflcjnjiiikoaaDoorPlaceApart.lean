/- PlaceApart: the walk. -/
import Derived.Test.YtkflcjnjiiikoaaDoorCellName
import Derived.Deep.RegionHeld3
import Derived.Deep.OwnRows
namespace Go.Proofs.YtkflcjnjiiikoaaDoor
open Go.RowKit

/-! ## What was seen -/
def sawB (m i q x : Nat) : Bool := decide (8 ≤ x ∧ x < 8 + 4 * m ∧ ((x - 8) % m < i ∨ (x - 8) % m = i ∧ (x - 8) / m < q))
def seenA (m i q : Nat) : Array Value := ((List.range 300).map fun x => Value.bool (sawB m i q x)).toArray
theorem seen_at {m i q x : Nat} (h : x < 300) : (seenA m i q)[x]? = some (.bool (sawB m i q x)) := by
  simp [seenA, h]
theorem saw_none (m x : Nat) : sawB m 0 0 x = false := by
  unfold sawB
  rw [decide_eq_false_iff_not]
  rintro ⟨_, _, h | ⟨_, h⟩⟩ <;> exact Nat.not_lt_zero _ h
theorem zero_any (N m : Nat) : madeCells #[.bool false] N = ((List.range N).map fun x => Value.bool (sawB m 0 0 x)).toArray := by
  apply Array.ext'
  rw [toList_madeCells_one]
  apply List.ext_getElem
  · simp
  · intro i h1 h2
    simp [saw_none]
theorem seen_zero (m : Nat) : madeCells #[.bool false] 300 = seenA m 0 0 := zero_any 300 m
theorem parts {m i q x : Nat} (hi : i < m) : (x - 8) % m = i ∧ (x - 8) / m = q ∧ 8 ≤ x ↔ x = 8 + q * m + i := by
  constructor
  · rintro ⟨h1, h2, h3⟩
    have := Nat.div_add_mod (x - 8) m
    rw [h1, h2, Nat.mul_comm] at this
    omega
  · rintro rfl
    rw [show 8 + q * m + i - 8 = i + q * m by omega]
    refine ⟨?_, ?_, by omega⟩
    · rw [Nat.add_mul_mod_self_right, Nat.mod_eq_of_lt hi]
    · rw [Nat.add_mul_div_right _ _ (by omega), Nat.div_eq_of_lt hi, Nat.zero_add]
theorem saw_no {m i q : Nat} (hi : i < m) : sawB m i q (8 + q * m + i) = false := by
  obtain ⟨h1, h2, h3⟩ := (parts (q := q) hi).2 rfl
  unfold sawB
  rw [decide_eq_false_iff_not, h1, h2]
  omega
theorem saw_next {m i q x : Nat} (hi : i < m) (hq : q < 4) : sawB m i (q + 1) x = (if 8 + q * m + i = x then true else sawB m i q x) := by
  have hqm : q * m ≤ 3 * m := Nat.mul_le_mul_right _ (by omega)
  split
  · rename_i h
    subst h
    obtain ⟨h1, h2, h3⟩ := (parts (q := q) hi).2 rfl
    unfold sawB
    rw [decide_eq_true_iff, h1, h2]
    omega
  · rename_i h
    have hp := parts (x := x) (q := q) hi
    unfold sawB
    congr 1
    apply propext
    constructor
    · rintro ⟨h1, h2, h3⟩
      refine ⟨h1, h2, ?_⟩
      rcases h3 with h3 | ⟨h3, h4⟩
      · exact .inl h3
      · refine .inr ⟨h3, ?_⟩
        rcases Nat.lt_or_ge ((x - 8) / m) q with h5 | h5
        · exact h5
        · exact absurd (hp.1 ⟨h3, by omega, h1⟩).symm h
    · rintro ⟨h1, h2, h3⟩
      refine ⟨h1, h2, ?_⟩
      rcases h3 with h3 | ⟨h3, h4⟩
      · exact .inl h3
      · exact .inr ⟨h3, by omega⟩
theorem seen_next {m i q : Nat} (hi : i < m) (hq : q < 4) : (seenA m i q).setIfInBounds (8 + q * m + i) (.bool true) = seenA m i (q + 1) := by
  apply Array.ext_getElem?
  intro x
  rw [Array.getElem?_setIfInBounds]
  rcases Nat.lt_or_ge x 300 with hx | hx
  · rw [seen_at hx, seen_at hx, saw_next hi hq]
    by_cases h : 8 + q * m + i = x
    · subst h; simp [seenA, hx]
    · simp only [h, if_false]
  · have e1 : (seenA m i (q + 1))[x]? = none := by simp [seenA, hx]
    have e2 : (seenA m i q)[x]? = none := by simp [seenA, hx]
    rw [e1]
    split
    · rename_i h; subst h; rw [if_neg]; simp [seenA]; omega
    · exact e2
theorem seen_row {m i : Nat} (hm : 1 ≤ m) : seenA m i 4 = seenA m (i + 1) 0 := by
  unfold seenA
  congr 1
  apply List.map_congr_left
  intro x _
  congr 1
  unfold sawB
  congr 1
  apply propext
  have hd : x < 8 + 4 * m → 8 ≤ x → (x - 8) / m < 4 := fun h1 h2 => Nat.div_lt_of_lt_mul (by omega)
  generalize (x - 8) % m = a at *
  generalize (x - 8) / m = b at *
  constructor
  · rintro ⟨h1, h2, h3⟩; exact ⟨h1, h2, by omega⟩
  · rintro ⟨h1, h2, h3⟩
    have := hd h2 h1
    exact ⟨h1, h2, by omega⟩
theorem saw_all {m x : Nat} (hm : 1 ≤ m) (h1 : 8 ≤ x) (h2 : x < 8 + 4 * m) : sawB m m 0 x = true := by
  unfold sawB
  rw [decide_eq_true_iff]
  have := Nat.mod_lt (x - 8) (show 0 < m by omega)
  omega

/-! ## Names of two cells -/
def cellB (r i : Nat) : ByteArray := rowBB r ++ digB i
theorem low_inj {a b : Nat} (ha : a < 256) (hb : b < 256) (h : UInt8.ofNat a = UInt8.ofNat b) : a = b := by
  have := congrArg UInt8.toNat h
  simp only [UInt8.toNat_ofNat'] at this
  omega
theorem digs_apart (i : Nat) (h : i + 1 < 100) : Lib.decDigits (i + 1) ≠ Lib.decDigits i := by
  intro e
  by_cases h1 : i + 1 < 10
  · rw [Lib.decDigits_one h1, Lib.decDigits_one (by omega)] at e
    injection e with e _
    have := low_inj (by omega) (by omega) e
    omega
  · by_cases h2 : i < 10
    · rw [Lib.decDigits_two h1 h, Lib.decDigits_one h2] at e
      injection e with _ e
      cases e
    · rw [Lib.decDigits_two h1 h, Lib.decDigits_two h2 (by omega)] at e
      injection e with e1 e
      injection e with e2 _
      have := low_inj (by omega) (by omega) e2
      omega
theorem cellB_data (r i : Nat) : (cellB r i).data.toList = (rowBB r).data.toList ++ Lib.decDigits i := by
  show ((rowBB r) ++ (digB i)).data.toList = _
  rw [ByteArray.data_append, Array.toList_append]
  rfl
theorem cells_apart {r i r' i' : Nat} (hi : i < 64) (hr : r < 4) (h : (r = r' ∧ i = i' + 1) ∨ r = r' + 1) : cellB r i ≠ cellB r' i' := by
  intro e
  have e2 := congrArg (fun b => b.data.toList) e
  simp only [cellB_data] at e2
  rcases h with ⟨rfl, rfl⟩ | rfl
  · exact digs_apart i' (by omega) (List.append_cancel_left e2)
  · rcases (show r' = 0 ∨ r' = 1 ∨ r' = 2 by omega) with rfl | rfl | rfl
    all_goals
      injection e2 with e2 _
      exact absurd e2 (by decide)
theorem name_full (r i : Nat) : (rowBB r ++ digB i).toList.isEmpty = false := by
  have e : (rowBB r ++ digB i).toList = (rowBB r).data.toList ++ Lib.decDigits i := (Lib.toList_data _).trans (cellB_data r i)
  rw [e]
  unfold rowBB
  split <;> rfl
theorem task_parts {M a : Nat} (hm : 1 ≤ M ∧ M ≤ 64) (h1 : 8 ≤ a) (h2 : a < 8 + 4 * M) :
    (1 ≤ (M : Int) ∧ (M : Int) ≤ 64) ∧ (a - 8) / M < 4 ∧ ((((a - 8) % M : Nat)) : Int) < (M : Int) ∧ (a : Int) = 8 + (((a - 8) / M : Nat) : Int) * M + (((a - 8) % M : Nat) : Int) := by
  have h3 := Nat.mod_lt (a - 8) (show 0 < M by omega)
  have h4 : (a - 8) / M < 4 := Nat.div_lt_of_lt_mul (by omega)
  refine ⟨by omega, h4, by omega, ?_⟩
  have h5 := ((parts (q := (a - 8) / M) (x := a) h3).1 ⟨rfl, rfl, h1⟩)
  generalize (a - 8) / M = q at *
  generalize (a - 8) % M = i at *
  rw [h5]
  push_cast
  rfl
theorem names_apart {M b : Nat} (hm : 1 ≤ M ∧ M ≤ 64) (h1 : 8 ≤ b) (h2 : b + 1 < 8 + 4 * M) :
    ((rowBB ((b + 1 - 8) / M) ++ digB ((b + 1 - 8) % M)).toList == (rowBB ((b - 8) / M) ++ digB ((b - 8) % M)).toList) = false := by
  have p1 := Nat.mod_lt (b + 1 - 8) (show 0 < M by omega)
  have p2 := Nat.mod_lt (b - 8) (show 0 < M by omega)
  have p3 : (b + 1 - 8) / M < 4 := Nat.div_lt_of_lt_mul (by omega)
  have hcase : ((b + 1 - 8) / M = (b - 8) / M ∧ (b + 1 - 8) % M = (b - 8) % M + 1) ∨ (b + 1 - 8) / M = (b - 8) / M + 1 := by
    rw [show b + 1 - 8 = (b - 8) + 1 by omega]
    have e1 := Nat.div_add_mod (b - 8) M
    have e2 := Nat.div_add_mod (b - 8 + 1) M
    have e3 := Nat.succ_div (a := b - 8) (b := M)
    by_cases hd : M ∣ b - 8 + 1
    · right; simp [hd] at e3; exact e3
    · left
      simp [hd] at e3
      refine ⟨e3, ?_⟩
      rw [e3] at e2
      omega
  have hne := cells_apart (r := (b + 1 - 8) / M) (i := (b + 1 - 8) % M) (r' := (b - 8) / M) (i' := (b - 8) % M) (by omega) p3 hcase
  rw [beq_eq_false_iff_ne]
  intro e
  rw [Lib.toList_data, Lib.toList_data] at e
  exact hne (Go.WideShapes.bytes_inj e)
theorem infoB : (Tryd.prog.info? 4).map (fun i => (i.zero, i.size, i.bytes)) = some (some (.bool false), 1, 1) := by kernel_rfl
theorem cell_is {m : Nat} {i q : Nat} (hm : 1 ≤ m ∧ m ≤ 64) (hi : i < m) : cellI m q i = ((8 + q * m + i : Nat) : Int) := by
  rw [show cellI m q i = 8 + q * m + i from if_pos ⟨by omega, by omega, by omega, by omega⟩]
  push_cast
  rfl

/-- The four cells of a task, as the law lays them. -/
def fourV (m i : Nat) : Array Value := #[.int .i64 (cellI m 0 i), .int .i64 (cellI m 1 i), .int .i64 (cellI m 2 i), .int .i64 (cellI m 3 i)]
theorem fourV_at (m i q : Nat) (h : q < 4) : (fourV m i)[q]? = some (.int .i64 (cellI m q i)) := by
  rcases (show q = 0 ∨ q = 1 ∨ q = 2 ∨ q = 3 by omega) with rfl | rfl | rfl | rfl <;> rfl

set_option maxRecDepth 100000 in
set_option maxHeartbeats 4000000 in
theorem apart_any (n : Int) (w : World) (hn : 0 ≤ n ∧ n < 256) :
    Calls Tryd.prog 4 #[.int .u8 n] w fun e w' => e = .returned (.bool true) ∧ Only Nil w w' := by
  obtain ⟨M, hM⟩ := Int.eq_ofNat_of_zero_le (show 0 ≤ 1 + n % 64 by omega)
  have hm : 1 ≤ M ∧ M ≤ 64 := by omega
  have HMM := Lib.hid hM
  have HM := Lib.hid hm
  obtain ⟨n1, n2⟩ := hn
  clear hM hm
  have hmk : ∀ W, (Instr.makeSlice 31 (.int .i64 300) (.int .i64 300)).run Tryd.prog W = .ok (.slice (some ⟨W.heap.size, 0, none⟩) 300 300) (W.alloc (.cells (seenA M 0 0) 4)) := fun W => by
    have e := run_make_row' (P := Tryd.prog) 31 4 (.bool false) 1 Tryd.underlying31 infoB rfl .i64 .i64 300 (by omega) (by omega) W
    rw [seen_zero M] at e
    exact e
  go_enter Tryd.func4, Tryd.ntmps4
  go_wp2_with fail
  rw [HMM.out]
  refine (new_yes M _ (by have := HM.out; omega)).mono ?_
  rintro e w1 ⟨rfl, hO⟩
  have HO1 := Lib.hid ((hO.alloc (.cells #[.int .i64 M] 23)).alloc (.cells (seenA M 0 0) 4))
  have HP1 := Lib.hid ((Row.new w1 23 #[.int .i64 M]).alloc (.cells (seenA M 0 0) 4))
  have HS1 := Lib.hid (Row.new2 w1 (.cells #[.int .i64 M] 23) 4 (seenA M 0 0))
  have HZ := Lib.hid hO.size
  clear hO
  go_wp2
  generalize w1.heap.size = gp at *
  clear hmk
  go_loopw [6] (fun a wr => ∃ i : Nat, i ≤ M ∧ a = .int .i64 i ∧ Row wr gp 23 #[.int .i64 M] ∧ Row wr (gp + 1) 4 (seenA M i 0) ∧ Only Nil w wr) (fun a _ => M - (intOf a).toNat)
  case atStart => exact ⟨0, Nat.zero_le _, rfl, HP1.out, HS1.out, HO1.out⟩
  case round =>
    obtain ⟨i, hi, rfl, hp, hs, ho⟩ := hrel
    have HP := Lib.hid hp
    have HS := Lib.hid hs
    have HO := Lib.hid ho
    have hpc : wr.cell? ⟨gp, 0, none⟩ = some (.int .i64 M) := hp.cell_ (i := 0) rfl
    clear hp hs ho
    by_cases hlt : i < M
    · go_wp2_with fail
      go_region_held3 (fun w' => w'.cell? ⟨gp, 0, none⟩ = some (.int .i64 M) ∧ Only Nil wr w')
        (first
          | exact ⟨hpc, (Only.refl _ _).drew⟩
          | (go_keep; done)
          | (go_split_ands
             refine ⟨?_, ?_⟩
             · rw [hO.cell (World.block_lt_of_cell? _ _ (by assumption)) id]; assumption
             · exact Only.trans (by assumption) hO)
          | (go_split_ands
             refine ⟨?_, ?_⟩
             · (go_keep; done)
             · exact Only.alloc (by assumption) _))
        ((first
          | (go_at_call 9; refine (next_any M i _).mono ?_; rintro e w' ⟨rfl, hO⟩)
          | (go_at_call 10; refine (blocked_any M i _).mono ?_; rintro e w' ⟨rfl, hO⟩)
          | (go_at_call 11; refine (watch_any M i _).mono ?_; rintro e w' ⟨rfl, hO⟩)
          | (go_at_call 12; refine (permit_any M i _).mono ?_; rintro e w' ⟨rfl, hO⟩)))
      rename_i hH
      have HO4 := Lib.hid (HO.out.trans hH.2)
      have HP4 := Lib.hid (HP.out.only hH.2 id)
      have HS4 := Lib.hid (HS.out.only hH.2 id)
      have HG4 : Hid (Row (w'.alloc (.cells #[.int .i64 (cellI M 0 i), .int .i64 (cellI M 1 i), .int .i64 (cellI M 2 i), .int .i64 (cellI M 3 i)] 3)) w'.heap.size 3 (fourV M i)) := Lib.hid (Row.new w' 3 (fourV M i))
      have HGZ := Lib.hid (show gp + 1 < w'.heap.size by
        have h1 := HS4.out.lt
        have h2 : ¬ gp + 1 = w'.heap.size := fun e => by
          have h3 := HS4.out
          have h4 := HG4.out
          rw [← e] at h4
          have h5 := (h3.same h4).2
          have h6 := congrArg Array.size h5
          simp [seenA, fourV] at h6
        simp at h1
        omega)
      clear hH hpc
      generalize w'.alloc (.cells #[.int .i64 (cellI M 0 i), .int .i64 (cellI M 1 i), .int .i64 (cellI M 2 i), .int .i64 (cellI M 3 i)] 3) = w4 at *
      generalize w'.heap.size = gl at *
      go_wp2
      go_loopw [41] (fun a wq => ∃ q : Nat, q ≤ 4 ∧ a = .int .i64 q ∧ Row wq gp 23 #[.int .i64 M] ∧ Row wq (gp + 1) 4 (seenA M i q) ∧ Row wq gl 3 (fourV M i) ∧ Only Nil w wq) (fun a _ => 4 - (intOf a).toNat)
      case atStart => exact ⟨0, by omega, rfl, HP4.out, HS4.out, HG4.out, HO4.out⟩
      case round =>
        obtain ⟨q, hq, rfl, hp, hs, hg, ho⟩ := hrel
        have HPq := Lib.hid hp
        have HSq := Lib.hid hs
        have HGq := Lib.hid hg
        have HOq := Lib.hid ho
        clear hp hs hg ho
        by_cases hqt : q < 4
        · obtain ⟨X, hX⟩ : ∃ X, X = 8 + q * M + i := ⟨_, rfl⟩
          have hqm : q * M ≤ 3 * M := Nat.mul_le_mul_right _ (by omega)
          have m1 := HM.out
          have x1 : (8 : Int) ≤ (X : Int) := by omega
          have x2 : (X : Int) < sizeI M := by rw [show sizeI M = 8 + 4 * M from if_pos (by omega)]; omega
          have x3 : (X : Int) < 300 := by omega
          have hg := HGq.out.cell_ (fourV_at M i q hqt)
          rw [cell_is m1 hlt, ← hX] at hg
          have hs := HSq.out.cell_ (seen_at (m := M) (i := i) (q := q) (x := X) (by omega))
          rw [hX, saw_no hlt, ← hX] at hs
          have hp : wr.cell? ⟨gp, 0, none⟩ = some (.int .i64 M) := HPq.out.cell_ (i := 0) rfl
          have HX := Lib.hid hX
          clear hX hqm m1
          generalize hsz : sizeI M = sz at *
          have d1 : decide ((X : Int) < 8) = false := by simp; omega
          have d2 : decide (sz ≤ (X : Int)) = false := by simp; omega
          have d3 : decide (300 ≤ (X : Int)) = false := by simp; omega
          have HSZ := Lib.hid hsz
          clear hsz
          go_wp2_with fail
          refine (size_any M _).mono ?_
          rw [HSZ.out]
          rintro e w5 ⟨rfl, hO⟩
          have HO5 := Lib.hid (HOq.out.trans hO)
          have HP5 := Lib.hid (HPq.out.only hO id)
          have HS5 := Lib.hid (HSq.out.only hO id)
          have HG5 := Lib.hid (HGq.out.only hO id)
          have hs5 := (hO.cell (World.block_lt_of_cell? _ _ hs) id).trans hs
          have hp5 := (hO.cell (World.block_lt_of_cell? _ _ hp) id).trans hp
          clear hO hs hp hg
          go_wp2_with fail
          refine (name_task 1 M X q i _ (by decide) (by have := HM.out; omega) hqt (by omega) (by have := HX.out; rw [this]; push_cast; rfl)).mono ?_
          rintro e w6 ⟨rfl, hO⟩
          have HO6 := Lib.hid (HO5.out.trans hO)
          have HP6 := Lib.hid (HP5.out.only hO id)
          have HS6 := Lib.hid (HS5.out.only hO id)
          have HG6 := Lib.hid (HG5.out.only hO id)
          have hs6 := (hO.cell (World.block_lt_of_cell? _ _ hs5) id).trans hs5
          have hf6 := HS6.out.frozen X
          clear hO hs5 hp5
          have hne := name_full q i
          go_wp2
          have hfin := HS6.out.set X (.bool true)
          rw [HX.out, seen_next hlt hqt, ← HX.out] at hfin
          refine ⟨⟨q + 1, by omega, by go_num, HP6.out.far (by show gp ≠ gp + 1; omega) _, hfin, HG6.out.far (by have := HGZ.out; show gl ≠ gp + 1; omega) _, HO6.out.setCell (p := ⟨gp + 1, X, none⟩) (.inl (by have := HZ.out; show w.heap.size ≤ gp + 1; omega)) _⟩, by simp [intOf]; omega⟩
        · have mb := HM.out
          have hq4 : q = 4 := by omega
          subst hq4
          have HS7 : Hid (Row wr (gp + 1) 4 (seenA M (i + 1) 0)) := Lib.hid (seen_row HM.out.1 ▸ HSq.out)
          go_wp2
          exact ⟨⟨i + 1, by omega, by go_num, HPq.out, HS7.out, HOq.out⟩, by simp [intOf]; omega⟩
    · have him : M = i := by omega
      subst him
      go_wp2
      go_loopw [9] (fun x wq => ∃ a : Nat, 8 ≤ a ∧ (a : Int) ≤ sizeI M ∧ x = .int .i64 a ∧ Row wq gp 23 #[.int .i64 M] ∧ Row wq (gp + 1) 4 (seenA M M 0) ∧ Only Nil w wq) (fun x _ => 300 - (intOf x).toNat)
      case atStart => exact ⟨8, by omega, by rw [show sizeI M = 8 + 4 * M from if_pos (by have := HM.out; omega)]; omega, rfl, HP.out, HS.out, HO.out⟩
      case round =>
        obtain ⟨a, ha8, haz, rfl, hp, hs, ho⟩ := hrel
        have HPq := Lib.hid hp
        have HSq := Lib.hid hs
        have HOq := Lib.hid ho
        clear hp hs ho
        have hp : wr.cell? ⟨gp, 0, none⟩ = some (.int .i64 M) := HPq.out.cell_ (i := 0) rfl
        have m1 := HM.out
        have hz : sizeI M = 8 + 4 * M := if_pos (by omega)
        by_cases hlt : a < 8 + 4 * M
        · have x2 : (a : Int) < sizeI M := by omega
          have x3 : (a : Int) < 300 := by omega
          have a0 : (8 : Int) ≤ (a : Int) := by omega
          have HLT := Lib.hid hlt
          have HZ2 := Lib.hid hz
          clear hz haz
          generalize hsz : sizeI M = sz at *
          have HSZ := Lib.hid hsz
          clear hsz hlt m1
          go_wp2_with fail
          refine (size_any M _).mono ?_
          rw [HSZ.out]
          rintro e w5 ⟨rfl, hO⟩
          have HO5 := Lib.hid (HOq.out.trans hO)
          have HP5 := Lib.hid (HPq.out.only hO id)
          have HS5 := Lib.hid (HSq.out.only hO id)
          clear hO hp
          have hp5 : w5.cell? ⟨gp, 0, none⟩ = some (.int .i64 M) := HP5.out.cell_ (i := 0) rfl
          have hs5 := HS5.out.cell_ (seen_at (m := M) (i := M) (q := 0) (x := a) (by omega))
          rw [saw_all HM.out.1 (by omega) HLT.out] at hs5
          by_cases h9 : 8 < a
          · have ha : decide (8 < (a : Int)) = true := by simp; omega
            obtain ⟨b, hb⟩ : ∃ b, a = b + 1 := ⟨a - 1, by omega⟩
            have HT1 := Lib.hid (task_parts HM.out (show 8 ≤ a by omega) HLT.out)
            have HT2 := Lib.hid (task_parts HM.out (show 8 ≤ b by omega) (show b < 8 + 4 * M by have := HLT.out; omega))
            have hne := names_apart HM.out (show 8 ≤ b by omega) (show b + 1 < 8 + 4 * M by have := HLT.out; omega)
            rw [← hb] at hne
            have a00 : (0 : Int) ≤ (a : Int) := by omega
            have b00 : (0 : Int) ≤ (b : Int) := by omega
            have hsub : IntKind.i64.wrap ((a : Int) - 1) = (b : Int) := by
              rw [show (a : Int) - 1 = (b : Int) by omega]
              exact IntWalk.i64_in _ (by omega)
            have HB := Lib.hid hb
            clear hb
            go_wp2_with fail
            go_region_held3 (fun w' => w'.cell? ⟨gp, 0, none⟩ = some (.int .i64 M) ∧ w'.cell? ⟨gp + 1, a, none⟩ = some (.bool true) ∧ Only Nil w5 w')
              (first
                | exact ⟨hp5, hs5, (Only.refl _ _).drew⟩
                | (go_keep; done)
                | (go_split_ands
                   refine ⟨?_, ?_, ?_⟩
                   · rw [hO.cell (World.block_lt_of_cell? _ _ (by assumption)) id]; assumption
                   · rw [hO.cell (World.block_lt_of_cell? _ _ (by assumption)) id]; assumption
                   · exact Only.trans (by assumption) hO))
              ((first
                | (go_at_call_of 5 (Value.int .i64 (a : Int)); refine (name_task 2 M a _ _ _ (by decide) HT1.out.1 HT1.out.2.1 HT1.out.2.2.1 HT1.out.2.2.2).mono ?_; rintro e w' ⟨rfl, hO⟩)
                | (go_at_call 5; refine (name_task 2 M _ _ _ _ (by decide) HT2.out.1 HT2.out.2.1 HT2.out.2.2.1 HT2.out.2.2.2).mono ?_; rintro e w' ⟨rfl, hO⟩)))
            rename_i hH
            have HO7 := Lib.hid (HO5.out.trans hH.2.2)
            have HP7 := Lib.hid (HP5.out.only hH.2.2 id)
            have HS7 := Lib.hid (HS5.out.only hH.2.2 id)
            clear hH hsub hne hp5 hs5
            go_wp2
            exact ⟨⟨a + 1, by omega, by have := HZ2.out; have := HLT.out; omega, by go_num, HP7.out, HS7.out, HO7.out⟩, by simp [intOf]; omega⟩
          · have ha : decide (8 < (a : Int)) = false := by simp; omega
            go_wp2_with fail
            go_quiet (fail)
            go_wp2
            exact ⟨⟨a + 1, by omega, by have := HZ2.out; have := HLT.out; omega, by go_num, HP5.out, HS5.out, HO5.out.drewN _⟩, by simp [intOf]; omega⟩
        · have x2 : ¬ (a : Int) < sizeI M := by omega
          generalize hsz : sizeI M = sz at *
          have HSZ := Lib.hid hsz
          clear hsz hlt m1 hz haz
          go_wp2_with fail
          refine (size_any M _).mono ?_
          rw [HSZ.out]
          rintro e w5 ⟨rfl, hO⟩
          have HO5 := Lib.hid (HOq.out.trans hO)
          clear hO hp
          go_wp2_with fail
          refine (awake_any _).mono ?_
          rintro e w6 ⟨rfl, hO⟩
          have HO6 := Lib.hid (HO5.out.trans hO)
          clear hO
          go_wp2
          go_ret
          exact ⟨rfl, HO6.out⟩

theorem walk_placeApart (n : Int) (w : World) (wn : (Lit.int .u8 n).wf = true) :
    Calls Tryd.prog 4 #[.int .u8 n] w fun e w' => e = .returned (.bool true) ∧ Below w.heap.size w w' :=
  (apart_any n w (wf_u8 wn)).mono fun _ _ ⟨he, hO⟩ => ⟨he, hO.below (Nat.le_refl _) (fun _ _ h => h)⟩
end Go.Proofs.YtkflcjnjiiikoaaDoor
