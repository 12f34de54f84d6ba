import Derived.Deep.Cut
import Derived.Test.YtocdbeonogfopaaGreatG5
set_option linter.unusedVariables false
set_option linter.unusedSimpArgs false
namespace Go.Proofs.YtocdbeonogfopaaGreat
open Go.RowKit
set_option maxHeartbeats 400000 in
theorem tgive_any (p A : Option Addr) (cp : Nat) (xs : List Int) (n : Int) (on : Bool) (c i : Int) (hit : Bool) (j : Int) (hj : IntKind.i64.wrap (i + 1) = j) (w : World) (h : Memo w p A cp xs) :
    Calls Tryz.prog 49 #[.agg #[.pointer p, .int .i64 n, .bool on, .int .i64 c, .int .i64 i, .bool hit]] w
      (Turned p A cp ⟨true, c, j, false⟩ (doVal xs 2 (pc n i) 1 0) (there xs (pc n i)) (st xs (pc n i) 1) w) := by
  have HF0 := Lib.hid (TF.start #[.pointer p, .int .i64 n, .bool on, .int .i64 c, .int .i64 i, .bool hit] h)
  have HJ := Lib.hid hj
  clear h hj
  go_enter Tryz.func49, Tryz.ntmps49
  go_wp2_with fail
  generalize ((w.alloc (.cells #[.pointer p, .int .i64 n, .bool on, .int .i64 c, .int .i64 i, .bool hit] 101)).alloc (.cells #[.bool false, .int .i64 0, .int .i64 0, .bool false] 53)).alloc (.cells #[.int .i64 0, .int .i64 0, .int .u32 0, .int .u32 0, .int .u32 0] 59) = w1 at *
  generalize w.heap.size = B at *
  refine (give_any p A cp xs n i _ HF0.out.memo).mono ?_
  obtain ⟨k', c', x', y', hv⟩ := doVal_form xs 2 (pc n i) 1 0
  generalize (if doOk xs 2 (pc n i) then wordAt xs (pc n i) else 0) = o' at hv
  rw [hv]
  rintro e w2 ⟨rfl, hO, hM⟩
  have HF1 := Lib.hid (HF0.out.call hO hM)
  have HV := Lib.hid hv
  clear hO hM hv HF0
  generalize there xs (pc n i) = ok at *
  have HF2 := Lib.hid (HF1.out.keep ((Only.refl Nil w2).alloc (.cells #[.int .i64 k', .int .i64 c', .int .u32 x', .int .u32 y', .int .u32 o'] 59)))
  have HN := Lib.hid (Row.new w2 59 #[.int .i64 k', .int .i64 c', .int .u32 x', .int .u32 y', .int .u32 o'])
  have HG := Lib.hid (show B + 1 + 1 < w2.heap.size from HF1.out.ra.lt)
  clear HF1
  go_wp2_with fail
  generalize w2.alloc (.cells #[.int .i64 k', .int .i64 c', .int .u32 x', .int .u32 y', .int .u32 o'] 59) = w3 at *
  generalize w2.heap.size = g at *
  have d0 : w3.cell? ⟨B, 0, none⟩ = some (.pointer p) := HF2.out.rt.cell_ (i := 0) rfl
  have d1 : w3.cell? ⟨B, 1, none⟩ = some (.int .i64 n) := HF2.out.rt.cell_ (i := 1) rfl
  have d2 : w3.cell? ⟨B, 2, none⟩ = some (.bool on) := HF2.out.rt.cell_ (i := 2) rfl
  have d3 : w3.cell? ⟨B, 3, none⟩ = some (.int .i64 c) := HF2.out.rt.cell_ (i := 3) rfl
  have d4 : w3.cell? ⟨B, 4, none⟩ = some (.int .i64 i) := HF2.out.rt.cell_ (i := 4) rfl
  have d5 : w3.cell? ⟨B, 5, none⟩ = some (.bool hit) := HF2.out.rt.cell_ (i := 5) rfl
  have c0 : w3.cell? ⟨g, 0, none⟩ = some (.int .i64 k') := HN.out.cell_ (i := 0) rfl
  have c1 : w3.cell? ⟨g, 1, none⟩ = some (.int .i64 c') := HN.out.cell_ (i := 1) rfl
  have c2 : w3.cell? ⟨g, 2, none⟩ = some (.int .u32 x') := HN.out.cell_ (i := 2) rfl
  have c3 : w3.cell? ⟨g, 3, none⟩ = some (.int .u32 y') := HN.out.cell_ (i := 3) rfl
  have c4 : w3.cell? ⟨g, 4, none⟩ = some (.int .u32 o') := HN.out.cell_ (i := 4) rfl
  refine wp_region_held_drew (S := fun w' => (w'.cell? ⟨B, 0, none⟩ = some (.pointer p) ∧ w'.cell? ⟨B, 1, none⟩ = some (.int .i64 n) ∧ w'.cell? ⟨B, 2, none⟩ = some (.bool on) ∧ w'.cell? ⟨B, 3, none⟩ = some (.int .i64 c) ∧ w'.cell? ⟨B, 4, none⟩ = some (.int .i64 i) ∧ w'.cell? ⟨B, 5, none⟩ = some (.bool hit)) ∧ w'.cell? ⟨g, 0, none⟩ = some (.int .i64 k') ∧ w'.cell? ⟨g, 1, none⟩ = some (.int .i64 c') ∧ w'.cell? ⟨g, 2, none⟩ = some (.int .u32 x') ∧ w'.cell? ⟨g, 3, none⟩ = some (.int .u32 y') ∧ w'.cell? ⟨g, 4, none⟩ = some (.int .u32 o')) (by kernel_rfl) ⟨⟨d0, d1, d2, d3, d4, d5⟩, c0, c1, c2, c3, c4⟩ (fun hHeld => ?_)
  have HF3 := Lib.hid (HF2.out.keep (Only.refl Nil w3).drew)
  have HN3 := Lib.hid HN.out.drew
  clear c0 c1 c2 c3 c4 d0 d1 d2 d3 d4 d5 HF2 HN
  generalize w3.drew = w4 at *
  refine mtk 0 rfl (.agg #[.pointer p, .int .i64 n, .bool on, .int .i64 c, .int .i64 i, .bool hit]) (fun w hSw => ?_) ?_
  · (try dsimp only at hSw)
    go_split_ands
    go_simp
  (try simp only [Act.put, k1, k2, k3])
  refine mtk 1 rfl (.pointer (some ⟨B, 2, none⟩)) (fun w hSw => ?_) ?_
  · (try dsimp only at hSw)
    go_split_ands
    go_simp
  (try simp only [Act.put, k1, k2, k3])
  refine mtk 2 rfl (.pointer (some ⟨B, 4, none⟩)) (fun w hSw => ?_) ?_
  · (try dsimp only at hSw)
    go_split_ands
    go_simp
  (try simp only [Act.put, k1, k2, k3])
  refine mtk 3 rfl (.int .i64 i) (fun w hSw => ?_) ?_
  · (try dsimp only at hSw)
    go_split_ands
    go_simp
  (try simp only [Act.put, k1, k2, k3])
  refine mtk 4 rfl (.int .i64 (IntKind.i64.wrap (i + 1))) (fun w hSw => ?_) ?_
  · (try dsimp only at hSw)
    go_split_ands
    go_simp
  (try simp only [Act.put, k1, k2, k3])
  refine mtk 6 rfl (.agg #[.int .i64 k', .int .i64 c', .int .u32 x', .int .u32 y', .int .u32 o']) (fun w hSw => ?_) ?_
  · (try dsimp only at hSw)
    go_split_ands
    go_simp
  (try simp only [Act.put, k1, k2, k3])
  refine mtk 7 rfl (.bool ok) (fun w hSw => ?_) ?_
  · (try dsimp only at hSw)
    go_split_ands
    go_simp
  (try simp only [Act.put, k1, k2, k3])
  rw [HJ.out]
  refine mcl 5 rfl (by kernel_rfl) (by rfl) (fun K hK => ?_)
  go_simp
  refine (at_any p n on c i hit j false _).mono ?_
  rintro e w9 ⟨rfl, hO⟩
  have HF9 := Lib.hid (HF3.out.keep hO)
  have HN9 := Lib.hid (HN3.out.only hO id)
  refine hK.out _ _ ⟨⟨HF9.out.rt.cell_ (i := 0) rfl, HF9.out.rt.cell_ (i := 1) rfl, HF9.out.rt.cell_ (i := 2) rfl, HF9.out.rt.cell_ (i := 3) rfl, HF9.out.rt.cell_ (i := 4) rfl, HF9.out.rt.cell_ (i := 5) rfl⟩, HN9.out.cell_ (i := 0) rfl, HN9.out.cell_ (i := 1) rfl, HN9.out.cell_ (i := 2) rfl, HN9.out.cell_ (i := 3) rfl, HN9.out.cell_ (i := 4) rfl⟩ (fun hHeld9 => ?_)
  clear hK K hHeld hO HF3 HN3
  (try simp only [Act.put, k1, k2, k3])
  have n0 : w9.cell? ⟨B + 1, 0, none⟩ = some (.bool false) := HF9.out.rn.cell_ (i := 0) rfl
  have n1 : w9.cell? ⟨B + 1, 1, none⟩ = some (.int .i64 0) := HF9.out.rn.cell_ (i := 1) rfl
  have n2 : w9.cell? ⟨B + 1, 2, none⟩ = some (.int .i64 0) := HF9.out.rn.cell_ (i := 2) rfl
  have n3 : w9.cell? ⟨B + 1, 3, none⟩ = some (.bool false) := HF9.out.rn.cell_ (i := 3) rfl
  have m0 : w9.frozen? ⟨B + 1, 0, none⟩ = false := HF9.out.rn.frozen 0
  have m1 : w9.frozen? ⟨B + 1, 1, none⟩ = false := HF9.out.rn.frozen 1
  have m2 : w9.frozen? ⟨B + 1, 2, none⟩ = false := HF9.out.rn.frozen 2
  have m3 : w9.frozen? ⟨B + 1, 3, none⟩ = false := HF9.out.rn.frozen 3
  refine mcl 8 rfl (by kernel_rfl) (by rfl) (fun K hK => ?_)
  go_simp
  have HF4 := Lib.hid (HF9.out.setN (.bool true) (.int .i64 c) (.int .i64 j) (.bool false))
  have HN4 := Lib.hid (HN9.out.only (four_only (Only.refl (· = B + 1) w9) (g := B + 1) (.inr rfl) (.bool true) (.int .i64 c) (.int .i64 j) (.bool false)) (by have := HG.out; show ¬ g = B + 1; omega))
  refine hK.out _ _ ⟨⟨HF4.out.rt.cell_ (i := 0) rfl, HF4.out.rt.cell_ (i := 1) rfl, HF4.out.rt.cell_ (i := 2) rfl, HF4.out.rt.cell_ (i := 3) rfl, HF4.out.rt.cell_ (i := 4) rfl, HF4.out.rt.cell_ (i := 5) rfl⟩, HN4.out.cell_ (i := 0) rfl, HN4.out.cell_ (i := 1) rfl, HN4.out.cell_ (i := 2) rfl, HN4.out.cell_ (i := 3) rfl, HN4.out.cell_ (i := 4) rfl⟩ (fun hHeld2 => ?_)
  clear hK K hHeld9 n0 n1 n2 n3 m0 m1 m2 m3 HF9 HN9
  (try simp only [Act.put, k1, k2, k3])
  generalize (((w9.setCell ⟨B + 1, 0, none⟩ (.bool true)).setCell ⟨B + 1, 1, none⟩ (.int .i64 c)).setCell ⟨B + 1, 2, none⟩ (.int .i64 j)).setCell ⟨B + 1, 3, none⟩ (.bool false) = w5 at *
  have c0 : w5.cell? ⟨B + 1 + 1, 0, none⟩ = some (.int .i64 0) := HF4.out.ra.cell_ (i := 0) rfl
  have c1 : w5.cell? ⟨B + 1 + 1, 1, none⟩ = some (.int .i64 0) := HF4.out.ra.cell_ (i := 1) rfl
  have c2 : w5.cell? ⟨B + 1 + 1, 2, none⟩ = some (.int .u32 0) := HF4.out.ra.cell_ (i := 2) rfl
  have c3 : w5.cell? ⟨B + 1 + 1, 3, none⟩ = some (.int .u32 0) := HF4.out.ra.cell_ (i := 3) rfl
  have c4 : w5.cell? ⟨B + 1 + 1, 4, none⟩ = some (.int .u32 0) := HF4.out.ra.cell_ (i := 4) rfl
  have g0 : w5.frozen? ⟨B + 1 + 1, 0, none⟩ = false := HF4.out.ra.frozen 0
  have g1 : w5.frozen? ⟨B + 1 + 1, 1, none⟩ = false := HF4.out.ra.frozen 1
  have g2 : w5.frozen? ⟨B + 1 + 1, 2, none⟩ = false := HF4.out.ra.frozen 2
  have g3 : w5.frozen? ⟨B + 1 + 1, 3, none⟩ = false := HF4.out.ra.frozen 3
  have g4 : w5.frozen? ⟨B + 1 + 1, 4, none⟩ = false := HF4.out.ra.frozen 4
  refine mcl 9 rfl (by kernel_rfl) (by rfl) (fun K hK => ?_)
  go_simp
  have HF5 := Lib.hid (HF4.out.setA (.int .i64 k') (.int .i64 c') (.int .u32 x') (.int .u32 y') (.int .u32 o'))
  have HN5 := Lib.hid (five_far (g := B + 1 + 1) HN4.out (by have := HG.out; show g ≠ B + 1 + 1; omega) (.int .i64 k') (.int .i64 c') (.int .u32 x') (.int .u32 y') (.int .u32 o'))
  refine hK.out _ _ ⟨⟨HF5.out.rt.cell_ (i := 0) rfl, HF5.out.rt.cell_ (i := 1) rfl, HF5.out.rt.cell_ (i := 2) rfl, HF5.out.rt.cell_ (i := 3) rfl, HF5.out.rt.cell_ (i := 4) rfl, HF5.out.rt.cell_ (i := 5) rfl⟩, HN5.out.cell_ (i := 0) rfl, HN5.out.cell_ (i := 1) rfl, HN5.out.cell_ (i := 2) rfl, HN5.out.cell_ (i := 3) rfl, HN5.out.cell_ (i := 4) rfl⟩ (fun hHeld3 => ?_)
  clear hK K hHeld2 c0 c1 c2 c3 c4 g0 g1 g2 g3 g4 HF4 HN4
  (try simp only [Act.put, k1, k2, k3])
  generalize (((((w5.setCell ⟨B + 1 + 1, 0, none⟩ (.int .i64 k')).setCell ⟨B + 1 + 1, 1, none⟩ (.int .i64 c')).setCell ⟨B + 1 + 1, 2, none⟩ (.int .u32 x')).setCell ⟨B + 1 + 1, 3, none⟩ (.int .u32 y')).setCell ⟨B + 1 + 1, 4, none⟩ (.int .u32 o')) = w6 at *
  refine mtk 10 rfl (.bool ok) (fun w hSw => ?_) ?_
  · (try dsimp only at hSw)
    go_split_ands
    go_simp
  (try simp only [Act.put, k1, k2, k3])
  refine wpAnyH_done (by kernel_rfl) ?_ _
  clear hHeld3
  go_wp2
  refine post_two_tmp (P := Tryz.prog) Tryz.results49 (by rfl) HF5.out.rn Tryz.underlying53 rfl (by kernel_rfl) (by rfl) HF5.out.ra Tryz.underlying59 rfl (by kernel_rfl) rfl ⟨?_, HF5.out.only, HF5.out.memo⟩
  rw [HV.out]; rfl
theorem ready_two {P : Program} {md : Region.Mode} {ops : Array Oper} {Q : Exit → Act → World → Prop} {S : World → Prop} {fuel : Nat} {listed : Array Bool} {a : Act} {w : World} (i j : Nat) {oi oj : Oper} (hr : Region.ready md ops listed = [i, j]) (hi : ops[i]? = some oi) (hj : ops[j]? = some oj)
    (wi : Region.wanted oi (yielded ops a.tmps) = true) (wj : Region.wanted oj (yielded ops a.tmps) = true)
    (h1 : ∀ K' : Act → World → Prop, Shut (∀ a w, S w → (S w → wpAnyH P md ops Q S fuel (listed.setIfInBounds i true) a w) → K' a w) → Oper.wp P oi a w K' Q)
    (h2 : ∀ K' : Act → World → Prop, Shut (∀ a w, S w → (S w → wpAnyH P md ops Q S fuel (listed.setIfInBounds j true) a w) → K' a w) → Oper.wp P oj a w K' Q) : wpAnyH P md ops Q S (fuel + 1) listed a w :=
  wpAnyH_ready hr (by simp) (AllReadyH.cons (o := oi) hi (fun K' hK => by rw [if_pos wi]; exact h1 K' hK) (AllReadyH.cons (o := oj) hj (fun K' hK => by rw [if_pos wj]; exact h2 K' hK) AllReadyH.nil))
theorem doOk_load (xs : List Int) (c : Int) : doOk xs 1 c = there xs c := by simp [doOk, isKind]
set_option maxHeartbeats 400000 in
theorem tlook_yes (p A : Option Addr) (cp : Nat) (xs : List Int) (n : Int) (on : Bool) (c i : Int) (hit : Bool) (w : World) (h : Memo w p A cp xs) (hq : wordAt xs (wc n i) = (c + 1) % 4294967296) :
    Calls Tryz.prog 50 #[.agg #[.pointer p, .int .i64 n, .bool on, .int .i64 c, .int .i64 i, .bool hit]] w
      (Turned p A cp ⟨true, c, i, true⟩ (doVal xs 1 (wc n i) 0 0) (there xs (wc n i)) xs w) := by
  have HQ := Lib.hid (beq_iff_eq.2 hq)
  clear hq
  have HF0 := Lib.hid (TF.start #[.pointer p, .int .i64 n, .bool on, .int .i64 c, .int .i64 i, .bool hit] h)
  clear h
  go_enter Tryz.func50, Tryz.ntmps50
  go_wp2_with fail
  generalize ((w.alloc (.cells #[.pointer p, .int .i64 n, .bool on, .int .i64 c, .int .i64 i, .bool hit] 101)).alloc (.cells #[.bool false, .int .i64 0, .int .i64 0, .bool false] 53)).alloc (.cells #[.int .i64 0, .int .i64 0, .int .u32 0, .int .u32 0, .int .u32 0] 59) = w1 at *
  generalize w.heap.size = B at *
  have d0 : w1.cell? ⟨B, 0, none⟩ = some (.pointer p) := HF0.out.rt.cell_ (i := 0) rfl
  have d1 : w1.cell? ⟨B, 1, none⟩ = some (.int .i64 n) := HF0.out.rt.cell_ (i := 1) rfl
  have d2 : w1.cell? ⟨B, 2, none⟩ = some (.bool on) := HF0.out.rt.cell_ (i := 2) rfl
  have d3 : w1.cell? ⟨B, 3, none⟩ = some (.int .i64 c) := HF0.out.rt.cell_ (i := 3) rfl
  have d4 : w1.cell? ⟨B, 4, none⟩ = some (.int .i64 i) := HF0.out.rt.cell_ (i := 4) rfl
  have d5 : w1.cell? ⟨B, 5, none⟩ = some (.bool hit) := HF0.out.rt.cell_ (i := 5) rfl
  refine wp_region_held_drew (S := fun w' => w'.cell? ⟨B, 0, none⟩ = some (.pointer p) ∧ w'.cell? ⟨B, 1, none⟩ = some (.int .i64 n) ∧ w'.cell? ⟨B, 4, none⟩ = some (.int .i64 i)) (by kernel_rfl) ⟨d0, d1, d4⟩ (fun hHeld => ?_)
  have HF1 := Lib.hid (HF0.out.keep (Only.refl Nil w1).drew)
  clear d0 d1 d2 d3 d4 d5 HF0
  generalize w1.drew = w2 at *
  refine mtk 0 rfl (.pointer (some ⟨B, 0, none⟩)) (fun w hSw => ?_) ?_
  · (try dsimp only at hSw)
    go_split_ands
    go_simp
  (try simp only [Act.put, k1, k2, k3])
  refine mtk 1 rfl (.pointer p) (fun w hSw => ?_) ?_
  · (try dsimp only at hSw)
    go_split_ands
    go_simp
  (try simp only [Act.put, k1, k2, k3])
  refine mtk 2 rfl (.pointer (some ⟨B, 1, none⟩)) (fun w hSw => ?_) ?_
  · (try dsimp only at hSw)
    go_split_ands
    go_simp
  (try simp only [Act.put, k1, k2, k3])
  refine mtk 3 rfl (.agg #[.int .i64 n]) (fun w hSw => ?_) ?_
  · (try dsimp only at hSw)
    go_split_ands
    go_simp
  (try simp only [Act.put, k1, k2, k3])
  refine mtk 4 rfl (.pointer (some ⟨B, 2, none⟩)) (fun w hSw => ?_) ?_
  · (try dsimp only at hSw)
    go_split_ands
    go_simp
  (try simp only [Act.put, k1, k2, k3])
  refine mtk 5 rfl (.pointer (some ⟨B, 4, none⟩)) (fun w hSw => ?_) ?_
  · (try dsimp only at hSw)
    go_split_ands
    go_simp
  (try simp only [Act.put, k1, k2, k3])
  refine mtk 6 rfl (.int .i64 i) (fun w hSw => ?_) ?_
  · (try dsimp only at hSw)
    go_split_ands
    go_simp
  (try simp only [Act.put, k1, k2, k3])
  refine ready_two 7 13 (by kernel_rfl) (by rfl) (by rfl) (by rfl) (by rfl) (fun K hK => ?_) (fun K hK => ?_)
  · skip
    go_simp
    refine (watch_any n i _).mono ?_
    rintro e w3 ⟨rfl, hO⟩
    have HF2 := Lib.hid (HF1.out.keep hO)
    skip
    refine hK.out _ _ ⟨HF2.out.rt.cell_ (i := 0) rfl, HF2.out.rt.cell_ (i := 1) rfl, HF2.out.rt.cell_ (i := 4) rfl⟩ (fun hHeld2 => ?_)
    clear hK K hHeld hO HF1
    have HF1 := HF2
    have hHeld := hHeld2
    clear HF2 hHeld2
    (try simp only [Act.put, k1, k2, k3])
    rw [show cellI n 2 i = wc n i from rfl]
    refine mtk 8 rfl (.agg #[.int .i64 1, .int .i64 (wc n i), .int .u32 0, .int .u32 0, .int .u32 0]) (fun w hSw => ?_) ?_
    · (try dsimp only at hSw)
      go_split_ands
      go_simp
    (try simp only [Act.put, k1, k2, k3])
    refine ready_two 9 13 (by kernel_rfl) (by rfl) (by rfl) (by rfl) (by rfl) (fun K hK => ?_) (fun K hK => ?_)
    · skip
      go_simp
      refine (do_memo p A cp xs 1 (wc n i) 0 0 0 _ HF1.out.memo).mono ?_
      obtain ⟨k', c', x', y', hv⟩ := doVal_form xs 1 (wc n i) 0 0
      rw [oldAt xs 1 (wc n i) rfl] at hv
      rw [doNew_load, doOk_load]
      rw [hv]
      rintro e w4 ⟨rfl, hO, hM⟩
      have HF2 := Lib.hid (HF1.out.call hO hM)
      skip
      refine hK.out _ _ ⟨HF2.out.rt.cell_ (i := 0) rfl, HF2.out.rt.cell_ (i := 1) rfl, HF2.out.rt.cell_ (i := 4) rfl⟩ (fun hHeld2 => ?_)
      have HV := Lib.hid hv
      clear hK K hHeld hO hM hv HF1
      have HF1 := HF2
      have hHeld := hHeld2
      clear HF2 hHeld2
      (try simp only [Act.put, k1, k2, k3])
      generalize there xs (wc n i) = ok at *
      refine mtk 10 rfl (.tuple #[.agg #[.int .i64 k', .int .i64 c', .int .u32 x', .int .u32 y', .int .u32 (wordAt xs (wc n i))], .bool ok]) (fun w hSw => ?_) ?_
      · (try dsimp only at hSw)
        go_split_ands
        go_simp
      (try simp only [Act.put, k1, k2, k3])
      refine mtk 11 rfl (.agg #[.int .i64 k', .int .i64 c', .int .u32 x', .int .u32 y', .int .u32 (wordAt xs (wc n i))]) (fun w hSw => ?_) ?_
      · (try dsimp only at hSw)
        go_split_ands
        go_simp
      (try simp only [Act.put, k1, k2, k3])
      refine mtk 12 rfl (.bool ok) (fun w hSw => ?_) ?_
      · (try dsimp only at hSw)
        go_split_ands
        go_simp
      (try simp only [Act.put, k1, k2, k3])
      refine mcl 13 rfl (by kernel_rfl) (by rfl) (fun K hK => ?_)
      go_simp
      have HF2 := Lib.hid (HF1.out.keep ((Only.refl Nil w4).alloc (.cells #[.int .i64 0, .int .i64 0, .int .u32 0, .int .u32 0, .int .u32 0] 59)))
      have HN := Lib.hid (Row.new w4 59 #[.int .i64 0, .int .i64 0, .int .u32 0, .int .u32 0, .int .u32 0])
      have HG := Lib.hid (show B + 1 + 1 < w4.heap.size from HF1.out.ra.lt)
      refine hK.out _ _ ⟨HF2.out.rt.cell_ (i := 0) rfl, HF2.out.rt.cell_ (i := 1) rfl, HF2.out.rt.cell_ (i := 4) rfl⟩ (fun hHeld2 => ?_)
      clear hK K hHeld HF1
      have HF1 := HF2
      have hHeld := hHeld2
      clear HF2 hHeld2
      (try simp only [Act.put, k1, k2, k3])
      generalize w4.heap.size = g at *
      generalize w4.alloc (.cells #[.int .i64 0, .int .i64 0, .int .u32 0, .int .u32 0, .int .u32 0] 59) = w5 at *
      generalize wordAt xs (wc n i) = o' at *
      have a0 : w5.cell? ⟨g, 0, none⟩ = some (.int .i64 0) := HN.out.cell_ (i := 0) rfl
      have a1 : w5.cell? ⟨g, 1, none⟩ = some (.int .i64 0) := HN.out.cell_ (i := 1) rfl
      have a2 : w5.cell? ⟨g, 2, none⟩ = some (.int .u32 0) := HN.out.cell_ (i := 2) rfl
      have a3 : w5.cell? ⟨g, 3, none⟩ = some (.int .u32 0) := HN.out.cell_ (i := 3) rfl
      have a4 : w5.cell? ⟨g, 4, none⟩ = some (.int .u32 0) := HN.out.cell_ (i := 4) rfl
      have b0 : w5.frozen? ⟨g, 0, none⟩ = false := HN.out.frozen 0
      have b1 : w5.frozen? ⟨g, 1, none⟩ = false := HN.out.frozen 1
      have b2 : w5.frozen? ⟨g, 2, none⟩ = false := HN.out.frozen 2
      have b3 : w5.frozen? ⟨g, 3, none⟩ = false := HN.out.frozen 3
      have b4 : w5.frozen? ⟨g, 4, none⟩ = false := HN.out.frozen 4
      refine mcl 14 rfl (by kernel_rfl) (by rfl) (fun K hK => ?_)
      go_simp
      have HF2 := Lib.hid (HF1.out.far (five_only (Only.refl (· = g) w5) (g := g) (.inr rfl) (.int .i64 k') (.int .i64 c') (.int .u32 x') (.int .u32 y') (.int .u32 o')) HG.out)
      have HN2 := Lib.hid (five HN.out (.int .i64 k') (.int .i64 c') (.int .u32 x') (.int .u32 y') (.int .u32 o'))
      refine hK.out _ _ ⟨HF2.out.rt.cell_ (i := 0) rfl, HF2.out.rt.cell_ (i := 1) rfl, HF2.out.rt.cell_ (i := 4) rfl⟩ (fun hHeld2 => ?_)
      clear hK K hHeld HF1 HN a0 a1 a2 a3 a4 b0 b1 b2 b3 b4
      (try simp only [Act.put, k1, k2, k3])
      generalize (((((w5.setCell ⟨g, 0, none⟩ (.int .i64 k')).setCell ⟨g, 1, none⟩ (.int .i64 c')).setCell ⟨g, 2, none⟩ (.int .u32 x')).setCell ⟨g, 3, none⟩ (.int .u32 y')).setCell ⟨g, 4, none⟩ (.int .u32 o')) = w7 at *
      refine mtk 15 rfl (.bool ok) (fun w hSw => ?_) ?_
      · (try dsimp only at hSw)
        go_split_ands
        go_simp
      (try simp only [Act.put, k1, k2, k3])
      refine wpAnyH_done (by kernel_rfl) ?_ _
      clear hHeld2
      have q0 := HQ.out
      have q1 : w7.cell? ⟨g, 4, none⟩ = some (.int .u32 o') := HN2.out.cell_ (i := 4) rfl
      have q2 : w7.cell? ⟨B, 3, none⟩ = some (.int .i64 c) := HF2.out.rt.cell_ (i := 3) rfl
      go_wp2_with fail
      clear q0 q1 q2
      have d0 : w7.cell? ⟨B, 0, none⟩ = some (.pointer p) := HF2.out.rt.cell_ (i := 0) rfl
      have d1 : w7.cell? ⟨B, 1, none⟩ = some (.int .i64 n) := HF2.out.rt.cell_ (i := 1) rfl
      have d2 : w7.cell? ⟨B, 2, none⟩ = some (.bool on) := HF2.out.rt.cell_ (i := 2) rfl
      have d3 : w7.cell? ⟨B, 3, none⟩ = some (.int .i64 c) := HF2.out.rt.cell_ (i := 3) rfl
      have d4 : w7.cell? ⟨B, 4, none⟩ = some (.int .i64 i) := HF2.out.rt.cell_ (i := 4) rfl
      have d5 : w7.cell? ⟨B, 5, none⟩ = some (.bool hit) := HF2.out.rt.cell_ (i := 5) rfl
      have c0 : w7.cell? ⟨g, 0, none⟩ = some (.int .i64 k') := HN2.out.cell_ (i := 0) rfl
      have c1 : w7.cell? ⟨g, 1, none⟩ = some (.int .i64 c') := HN2.out.cell_ (i := 1) rfl
      have c2 : w7.cell? ⟨g, 2, none⟩ = some (.int .u32 x') := HN2.out.cell_ (i := 2) rfl
      have c3 : w7.cell? ⟨g, 3, none⟩ = some (.int .u32 y') := HN2.out.cell_ (i := 3) rfl
      have c4 : w7.cell? ⟨g, 4, none⟩ = some (.int .u32 o') := HN2.out.cell_ (i := 4) rfl
      refine wp_region_held_drew (S := fun w' => (w'.cell? ⟨B, 0, none⟩ = some (.pointer p) ∧ w'.cell? ⟨B, 1, none⟩ = some (.int .i64 n) ∧ w'.cell? ⟨B, 2, none⟩ = some (.bool on) ∧ w'.cell? ⟨B, 3, none⟩ = some (.int .i64 c) ∧ w'.cell? ⟨B, 4, none⟩ = some (.int .i64 i) ∧ w'.cell? ⟨B, 5, none⟩ = some (.bool hit)) ∧ w'.cell? ⟨g, 0, none⟩ = some (.int .i64 k') ∧ w'.cell? ⟨g, 1, none⟩ = some (.int .i64 c') ∧ w'.cell? ⟨g, 2, none⟩ = some (.int .u32 x') ∧ w'.cell? ⟨g, 3, none⟩ = some (.int .u32 y') ∧ w'.cell? ⟨g, 4, none⟩ = some (.int .u32 o')) (by kernel_rfl) ⟨⟨d0, d1, d2, d3, d4, d5⟩, c0, c1, c2, c3, c4⟩ (fun hHeld => ?_)
      have HF3 := Lib.hid (HF2.out.keep (Only.refl Nil w7).drew)
      have HN3 := Lib.hid HN2.out.drew
      clear c0 c1 c2 c3 c4 d0 d1 d2 d3 d4 d5 HF2 HN2
      generalize w7.drew = w4 at *
      refine mtk 0 rfl (.agg #[.pointer p, .int .i64 n, .bool on, .int .i64 c, .int .i64 i, .bool hit]) (fun w hSw => ?_) ?_
      · (try dsimp only at hSw)
        go_split_ands
        go_simp
      (try simp only [Act.put, k1, k2, k3])
      refine mtk 1 rfl (.pointer (some ⟨B, 2, none⟩)) (fun w hSw => ?_) ?_
      · (try dsimp only at hSw)
        go_split_ands
        go_simp
      (try simp only [Act.put, k1, k2, k3])
      refine mtk 2 rfl (.pointer (some ⟨B, 4, none⟩)) (fun w hSw => ?_) ?_
      · (try dsimp only at hSw)
        go_split_ands
        go_simp
      (try simp only [Act.put, k1, k2, k3])
      refine mtk 3 rfl (.int .i64 i) (fun w hSw => ?_) ?_
      · (try dsimp only at hSw)
        go_split_ands
        go_simp
      (try simp only [Act.put, k1, k2, k3])
      refine mtk 5 rfl (.agg #[.int .i64 k', .int .i64 c', .int .u32 x', .int .u32 y', .int .u32 o']) (fun w hSw => ?_) ?_
      · (try dsimp only at hSw)
        go_split_ands
        go_simp
      (try simp only [Act.put, k1, k2, k3])
      refine mtk 6 rfl (.bool ok) (fun w hSw => ?_) ?_
      · (try dsimp only at hSw)
        go_split_ands
        go_simp
      (try simp only [Act.put, k1, k2, k3])
      refine mcl 4 rfl (by kernel_rfl) (by rfl) (fun K hK => ?_)
      go_simp
      refine (at_any p n on c i hit i true _).mono ?_
      rintro e w9 ⟨rfl, hO⟩
      have HF9 := Lib.hid (HF3.out.keep hO)
      have HN9 := Lib.hid (HN3.out.only hO id)
      refine hK.out _ _ ⟨⟨HF9.out.rt.cell_ (i := 0) rfl, HF9.out.rt.cell_ (i := 1) rfl, HF9.out.rt.cell_ (i := 2) rfl, HF9.out.rt.cell_ (i := 3) rfl, HF9.out.rt.cell_ (i := 4) rfl, HF9.out.rt.cell_ (i := 5) rfl⟩, HN9.out.cell_ (i := 0) rfl, HN9.out.cell_ (i := 1) rfl, HN9.out.cell_ (i := 2) rfl, HN9.out.cell_ (i := 3) rfl, HN9.out.cell_ (i := 4) rfl⟩ (fun hHeld9 => ?_)
      clear hK K hHeld hO HF3 HN3
      (try simp only [Act.put, k1, k2, k3])
      have n0 : w9.cell? ⟨B + 1, 0, none⟩ = some (.bool false) := HF9.out.rn.cell_ (i := 0) rfl
      have n1 : w9.cell? ⟨B + 1, 1, none⟩ = some (.int .i64 0) := HF9.out.rn.cell_ (i := 1) rfl
      have n2 : w9.cell? ⟨B + 1, 2, none⟩ = some (.int .i64 0) := HF9.out.rn.cell_ (i := 2) rfl
      have n3 : w9.cell? ⟨B + 1, 3, none⟩ = some (.bool false) := HF9.out.rn.cell_ (i := 3) rfl
      have m0 : w9.frozen? ⟨B + 1, 0, none⟩ = false := HF9.out.rn.frozen 0
      have m1 : w9.frozen? ⟨B + 1, 1, none⟩ = false := HF9.out.rn.frozen 1
      have m2 : w9.frozen? ⟨B + 1, 2, none⟩ = false := HF9.out.rn.frozen 2
      have m3 : w9.frozen? ⟨B + 1, 3, none⟩ = false := HF9.out.rn.frozen 3
      refine mcl 7 rfl (by kernel_rfl) (by rfl) (fun K hK => ?_)
      go_simp
      have HF4 := Lib.hid (HF9.out.setN (.bool true) (.int .i64 c) (.int .i64 i) (.bool true))
      have HN4 := Lib.hid (HN9.out.only (four_only (Only.refl (· = B + 1) w9) (g := B + 1) (.inr rfl) (.bool true) (.int .i64 c) (.int .i64 i) (.bool true)) (by have := HG.out; show ¬ g = B + 1; omega))
      refine hK.out _ _ ⟨⟨HF4.out.rt.cell_ (i := 0) rfl, HF4.out.rt.cell_ (i := 1) rfl, HF4.out.rt.cell_ (i := 2) rfl, HF4.out.rt.cell_ (i := 3) rfl, HF4.out.rt.cell_ (i := 4) rfl, HF4.out.rt.cell_ (i := 5) rfl⟩, HN4.out.cell_ (i := 0) rfl, HN4.out.cell_ (i := 1) rfl, HN4.out.cell_ (i := 2) rfl, HN4.out.cell_ (i := 3) rfl, HN4.out.cell_ (i := 4) rfl⟩ (fun hHeld2 => ?_)
      clear hK K hHeld9 n0 n1 n2 n3 m0 m1 m2 m3 HF9 HN9
      (try simp only [Act.put, k1, k2, k3])
      generalize (((w9.setCell ⟨B + 1, 0, none⟩ (.bool true)).setCell ⟨B + 1, 1, none⟩ (.int .i64 c)).setCell ⟨B + 1, 2, none⟩ (.int .i64 i)).setCell ⟨B + 1, 3, none⟩ (.bool true) = w5 at *
      have c0 : w5.cell? ⟨B + 1 + 1, 0, none⟩ = some (.int .i64 0) := HF4.out.ra.cell_ (i := 0) rfl
      have c1 : w5.cell? ⟨B + 1 + 1, 1, none⟩ = some (.int .i64 0) := HF4.out.ra.cell_ (i := 1) rfl
      have c2 : w5.cell? ⟨B + 1 + 1, 2, none⟩ = some (.int .u32 0) := HF4.out.ra.cell_ (i := 2) rfl
      have c3 : w5.cell? ⟨B + 1 + 1, 3, none⟩ = some (.int .u32 0) := HF4.out.ra.cell_ (i := 3) rfl
      have c4 : w5.cell? ⟨B + 1 + 1, 4, none⟩ = some (.int .u32 0) := HF4.out.ra.cell_ (i := 4) rfl
      have g0 : w5.frozen? ⟨B + 1 + 1, 0, none⟩ = false := HF4.out.ra.frozen 0
      have g1 : w5.frozen? ⟨B + 1 + 1, 1, none⟩ = false := HF4.out.ra.frozen 1
      have g2 : w5.frozen? ⟨B + 1 + 1, 2, none⟩ = false := HF4.out.ra.frozen 2
      have g3 : w5.frozen? ⟨B + 1 + 1, 3, none⟩ = false := HF4.out.ra.frozen 3
      have g4 : w5.frozen? ⟨B + 1 + 1, 4, none⟩ = false := HF4.out.ra.frozen 4
      refine mcl 8 rfl (by kernel_rfl) (by rfl) (fun K hK => ?_)
      go_simp
      have HF5 := Lib.hid (HF4.out.setA (.int .i64 k') (.int .i64 c') (.int .u32 x') (.int .u32 y') (.int .u32 o'))
      have HN5 := Lib.hid (five_far (g := B + 1 + 1) HN4.out (by have := HG.out; show g ≠ B + 1 + 1; omega) (.int .i64 k') (.int .i64 c') (.int .u32 x') (.int .u32 y') (.int .u32 o'))
      refine hK.out _ _ ⟨⟨HF5.out.rt.cell_ (i := 0) rfl, HF5.out.rt.cell_ (i := 1) rfl, HF5.out.rt.cell_ (i := 2) rfl, HF5.out.rt.cell_ (i := 3) rfl, HF5.out.rt.cell_ (i := 4) rfl, HF5.out.rt.cell_ (i := 5) rfl⟩, HN5.out.cell_ (i := 0) rfl, HN5.out.cell_ (i := 1) rfl, HN5.out.cell_ (i := 2) rfl, HN5.out.cell_ (i := 3) rfl, HN5.out.cell_ (i := 4) rfl⟩ (fun hHeld3 => ?_)
      clear hK K hHeld2 c0 c1 c2 c3 c4 g0 g1 g2 g3 g4 HF4 HN4
      (try simp only [Act.put, k1, k2, k3])
      generalize (((((w5.setCell ⟨B + 1 + 1, 0, none⟩ (.int .i64 k')).setCell ⟨B + 1 + 1, 1, none⟩ (.int .i64 c')).setCell ⟨B + 1 + 1, 2, none⟩ (.int .u32 x')).setCell ⟨B + 1 + 1, 3, none⟩ (.int .u32 y')).setCell ⟨B + 1 + 1, 4, none⟩ (.int .u32 o')) = w6 at *
      refine mtk 9 rfl (.bool ok) (fun w hSw => ?_) ?_
      · (try dsimp only at hSw)
        go_split_ands
        go_simp
      (try simp only [Act.put, k1, k2, k3])
      refine wpAnyH_done (by kernel_rfl) ?_ _
      clear hHeld3
      go_wp2
      refine post_two_tmp (P := Tryz.prog) Tryz.results50 (by rfl) HF5.out.rn Tryz.underlying53 rfl (by kernel_rfl) (by rfl) HF5.out.ra Tryz.underlying59 rfl (by kernel_rfl) rfl ⟨?_, HF5.out.only, HF5.out.memo⟩
      rw [HV.out]; rfl
    · skip
      go_simp
      have HF2 := Lib.hid (HF1.out.keep ((Only.refl Nil w3).alloc (.cells #[.int .i64 0, .int .i64 0, .int .u32 0, .int .u32 0, .int .u32 0] 59)))
      have HN := Lib.hid (Row.new w3 59 #[.int .i64 0, .int .i64 0, .int .u32 0, .int .u32 0, .int .u32 0])
      have HG := Lib.hid (show B + 1 + 1 < w3.heap.size from HF1.out.ra.lt)
      refine hK.out _ _ ⟨HF2.out.rt.cell_ (i := 0) rfl, HF2.out.rt.cell_ (i := 1) rfl, HF2.out.rt.cell_ (i := 4) rfl⟩ (fun hHeld2 => ?_)
      clear hK K hHeld HF1
      have HF1 := HF2
      have hHeld := hHeld2
      clear HF2 hHeld2
      (try simp only [Act.put, k1, k2, k3])
      generalize w3.heap.size = g at *
      generalize w3.alloc (.cells #[.int .i64 0, .int .i64 0, .int .u32 0, .int .u32 0, .int .u32 0] 59) = w5 at *
      refine mcl 9 rfl (by kernel_rfl) (by rfl) (fun K hK => ?_)
      go_simp
      refine (do_memo p A cp xs 1 (wc n i) 0 0 0 _ HF1.out.memo).mono ?_
      obtain ⟨k', c', x', y', hv⟩ := doVal_form xs 1 (wc n i) 0 0
      rw [oldAt xs 1 (wc n i) rfl] at hv
      rw [doNew_load, doOk_load]
      rw [hv]
      rintro e w4 ⟨rfl, hO, hM⟩
      have HF2 := Lib.hid (HF1.out.call hO hM)
      have HN := Lib.hid (HN.out.only hO (fun e => by have := HF1.out.lt _ (.inr e); have := HG.out; omega))
      refine hK.out _ _ ⟨HF2.out.rt.cell_ (i := 0) rfl, HF2.out.rt.cell_ (i := 1) rfl, HF2.out.rt.cell_ (i := 4) rfl⟩ (fun hHeld2 => ?_)
      have HV := Lib.hid hv
      clear hK K hHeld hO hM hv HF1
      have HF1 := HF2
      have hHeld := hHeld2
      clear HF2 hHeld2
      (try simp only [Act.put, k1, k2, k3])
      generalize there xs (wc n i) = ok at *
      refine mtk 10 rfl (.tuple #[.agg #[.int .i64 k', .int .i64 c', .int .u32 x', .int .u32 y', .int .u32 (wordAt xs (wc n i))], .bool ok]) (fun w hSw => ?_) ?_
      · (try dsimp only at hSw)
        go_split_ands
        go_simp
      (try simp only [Act.put, k1, k2, k3])
      refine mtk 11 rfl (.agg #[.int .i64 k', .int .i64 c', .int .u32 x', .int .u32 y', .int .u32 (wordAt xs (wc n i))]) (fun w hSw => ?_) ?_
      · (try dsimp only at hSw)
        go_split_ands
        go_simp
      (try simp only [Act.put, k1, k2, k3])
      refine mtk 12 rfl (.bool ok) (fun w hSw => ?_) ?_
      · (try dsimp only at hSw)
        go_split_ands
        go_simp
      (try simp only [Act.put, k1, k2, k3])
      generalize wordAt xs (wc n i) = o' at *
      have a0 : w4.cell? ⟨g, 0, none⟩ = some (.int .i64 0) := HN.out.cell_ (i := 0) rfl
      have a1 : w4.cell? ⟨g, 1, none⟩ = some (.int .i64 0) := HN.out.cell_ (i := 1) rfl
      have a2 : w4.cell? ⟨g, 2, none⟩ = some (.int .u32 0) := HN.out.cell_ (i := 2) rfl
      have a3 : w4.cell? ⟨g, 3, none⟩ = some (.int .u32 0) := HN.out.cell_ (i := 3) rfl
      have a4 : w4.cell? ⟨g, 4, none⟩ = some (.int .u32 0) := HN.out.cell_ (i := 4) rfl
      have b0 : w4.frozen? ⟨g, 0, none⟩ = false := HN.out.frozen 0
      have b1 : w4.frozen? ⟨g, 1, none⟩ = false := HN.out.frozen 1
      have b2 : w4.frozen? ⟨g, 2, none⟩ = false := HN.out.frozen 2
      have b3 : w4.frozen? ⟨g, 3, none⟩ = false := HN.out.frozen 3
      have b4 : w4.frozen? ⟨g, 4, none⟩ = false := HN.out.frozen 4
      refine mcl 14 rfl (by kernel_rfl) (by rfl) (fun K hK => ?_)
      go_simp
      have HF2 := Lib.hid (HF1.out.far (five_only (Only.refl (· = g) w4) (g := g) (.inr rfl) (.int .i64 k') (.int .i64 c') (.int .u32 x') (.int .u32 y') (.int .u32 o')) HG.out)
      have HN2 := Lib.hid (five HN.out (.int .i64 k') (.int .i64 c') (.int .u32 x') (.int .u32 y') (.int .u32 o'))
      refine hK.out _ _ ⟨HF2.out.rt.cell_ (i := 0) rfl, HF2.out.rt.cell_ (i := 1) rfl, HF2.out.rt.cell_ (i := 4) rfl⟩ (fun hHeld2 => ?_)
      clear hK K hHeld HF1 HN a0 a1 a2 a3 a4 b0 b1 b2 b3 b4
      (try simp only [Act.put, k1, k2, k3])
      generalize (((((w4.setCell ⟨g, 0, none⟩ (.int .i64 k')).setCell ⟨g, 1, none⟩ (.int .i64 c')).setCell ⟨g, 2, none⟩ (.int .u32 x')).setCell ⟨g, 3, none⟩ (.int .u32 y')).setCell ⟨g, 4, none⟩ (.int .u32 o')) = w7 at *
      refine mtk 15 rfl (.bool ok) (fun w hSw => ?_) ?_
      · (try dsimp only at hSw)
        go_split_ands
        go_simp
      (try simp only [Act.put, k1, k2, k3])
      refine wpAnyH_done (by kernel_rfl) ?_ _
      clear hHeld2
      have q0 := HQ.out
      have q1 : w7.cell? ⟨g, 4, none⟩ = some (.int .u32 o') := HN2.out.cell_ (i := 4) rfl
      have q2 : w7.cell? ⟨B, 3, none⟩ = some (.int .i64 c) := HF2.out.rt.cell_ (i := 3) rfl
      go_wp2_with fail
      clear q0 q1 q2
      have d0 : w7.cell? ⟨B, 0, none⟩ = some (.pointer p) := HF2.out.rt.cell_ (i := 0) rfl
      have d1 : w7.cell? ⟨B, 1, none⟩ = some (.int .i64 n) := HF2.out.rt.cell_ (i := 1) rfl
      have d2 : w7.cell? ⟨B, 2, none⟩ = some (.bool on) := HF2.out.rt.cell_ (i := 2) rfl
      have d3 : w7.cell? ⟨B, 3, none⟩ = some (.int .i64 c) := HF2.out.rt.cell_ (i := 3) rfl
      have d4 : w7.cell? ⟨B, 4, none⟩ = some (.int .i64 i) := HF2.out.rt.cell_ (i := 4) rfl
      have d5 : w7.cell? ⟨B, 5, none⟩ = some (.bool hit) := HF2.out.rt.cell_ (i := 5) rfl
      have c0 : w7.cell? ⟨g, 0, none⟩ = some (.int .i64 k') := HN2.out.cell_ (i := 0) rfl
      have c1 : w7.cell? ⟨g, 1, none⟩ = some (.int .i64 c') := HN2.out.cell_ (i := 1) rfl
      have c2 : w7.cell? ⟨g, 2, none⟩ = some (.int .u32 x') := HN2.out.cell_ (i := 2) rfl
      have c3 : w7.cell? ⟨g, 3, none⟩ = some (.int .u32 y') := HN2.out.cell_ (i := 3) rfl
      have c4 : w7.cell? ⟨g, 4, none⟩ = some (.int .u32 o') := HN2.out.cell_ (i := 4) rfl
      refine wp_region_held_drew (S := fun w' => (w'.cell? ⟨B, 0, none⟩ = some (.pointer p) ∧ w'.cell? ⟨B, 1, none⟩ = some (.int .i64 n) ∧ w'.cell? ⟨B, 2, none⟩ = some (.bool on) ∧ w'.cell? ⟨B, 3, none⟩ = some (.int .i64 c) ∧ w'.cell? ⟨B, 4, none⟩ = some (.int .i64 i) ∧ w'.cell? ⟨B, 5, none⟩ = some (.bool hit)) ∧ w'.cell? ⟨g, 0, none⟩ = some (.int .i64 k') ∧ w'.cell? ⟨g, 1, none⟩ = some (.int .i64 c') ∧ w'.cell? ⟨g, 2, none⟩ = some (.int .u32 x') ∧ w'.cell? ⟨g, 3, none⟩ = some (.int .u32 y') ∧ w'.cell? ⟨g, 4, none⟩ = some (.int .u32 o')) (by kernel_rfl) ⟨⟨d0, d1, d2, d3, d4, d5⟩, c0, c1, c2, c3, c4⟩ (fun hHeld => ?_)
      have HF3 := Lib.hid (HF2.out.keep (Only.refl Nil w7).drew)
      have HN3 := Lib.hid HN2.out.drew
      clear c0 c1 c2 c3 c4 d0 d1 d2 d3 d4 d5 HF2 HN2
      generalize w7.drew = w4 at *
      refine mtk 0 rfl (.agg #[.pointer p, .int .i64 n, .bool on, .int .i64 c, .int .i64 i, .bool hit]) (fun w hSw => ?_) ?_
      · (try dsimp only at hSw)
        go_split_ands
        go_simp
      (try simp only [Act.put, k1, k2, k3])
      refine mtk 1 rfl (.pointer (some ⟨B, 2, none⟩)) (fun w hSw => ?_) ?_
      · (try dsimp only at hSw)
        go_split_ands
        go_simp
      (try simp only [Act.put, k1, k2, k3])
      refine mtk 2 rfl (.pointer (some ⟨B, 4, none⟩)) (fun w hSw => ?_) ?_
      · (try dsimp only at hSw)
        go_split_ands
        go_simp
      (try simp only [Act.put, k1, k2, k3])
      refine mtk 3 rfl (.int .i64 i) (fun w hSw => ?_) ?_
      · (try dsimp only at hSw)
        go_split_ands
        go_simp
      (try simp only [Act.put, k1, k2, k3])
      refine mtk 5 rfl (.agg #[.int .i64 k', .int .i64 c', .int .u32 x', .int .u32 y', .int .u32 o']) (fun w hSw => ?_) ?_
      · (try dsimp only at hSw)
        go_split_ands
        go_simp
      (try simp only [Act.put, k1, k2, k3])
      refine mtk 6 rfl (.bool ok) (fun w hSw => ?_) ?_
      · (try dsimp only at hSw)
        go_split_ands
        go_simp
      (try simp only [Act.put, k1, k2, k3])
      refine mcl 4 rfl (by kernel_rfl) (by rfl) (fun K hK => ?_)
      go_simp
      refine (at_any p n on c i hit i true _).mono ?_
      rintro e w9 ⟨rfl, hO⟩
      have HF9 := Lib.hid (HF3.out.keep hO)
      have HN9 := Lib.hid (HN3.out.only hO id)
      refine hK.out _ _ ⟨⟨HF9.out.rt.cell_ (i := 0) rfl, HF9.out.rt.cell_ (i := 1) rfl, HF9.out.rt.cell_ (i := 2) rfl, HF9.out.rt.cell_ (i := 3) rfl, HF9.out.rt.cell_ (i := 4) rfl, HF9.out.rt.cell_ (i := 5) rfl⟩, HN9.out.cell_ (i := 0) rfl, HN9.out.cell_ (i := 1) rfl, HN9.out.cell_ (i := 2) rfl, HN9.out.cell_ (i := 3) rfl, HN9.out.cell_ (i := 4) rfl⟩ (fun hHeld9 => ?_)
      clear hK K hHeld hO HF3 HN3
      (try simp only [Act.put, k1, k2, k3])
      have n0 : w9.cell? ⟨B + 1, 0, none⟩ = some (.bool false) := HF9.out.rn.cell_ (i := 0) rfl
      have n1 : w9.cell? ⟨B + 1, 1, none⟩ = some (.int .i64 0) := HF9.out.rn.cell_ (i := 1) rfl
      have n2 : w9.cell? ⟨B + 1, 2, none⟩ = some (.int .i64 0) := HF9.out.rn.cell_ (i := 2) rfl
      have n3 : w9.cell? ⟨B + 1, 3, none⟩ = some (.bool false) := HF9.out.rn.cell_ (i := 3) rfl
      have m0 : w9.frozen? ⟨B + 1, 0, none⟩ = false := HF9.out.rn.frozen 0
      have m1 : w9.frozen? ⟨B + 1, 1, none⟩ = false := HF9.out.rn.frozen 1
      have m2 : w9.frozen? ⟨B + 1, 2, none⟩ = false := HF9.out.rn.frozen 2
      have m3 : w9.frozen? ⟨B + 1, 3, none⟩ = false := HF9.out.rn.frozen 3
      refine mcl 7 rfl (by kernel_rfl) (by rfl) (fun K hK => ?_)
      go_simp
      have HF4 := Lib.hid (HF9.out.setN (.bool true) (.int .i64 c) (.int .i64 i) (.bool true))
      have HN4 := Lib.hid (HN9.out.only (four_only (Only.refl (· = B + 1) w9) (g := B + 1) (.inr rfl) (.bool true) (.int .i64 c) (.int .i64 i) (.bool true)) (by have := HG.out; show ¬ g = B + 1; omega))
      refine hK.out _ _ ⟨⟨HF4.out.rt.cell_ (i := 0) rfl, HF4.out.rt.cell_ (i := 1) rfl, HF4.out.rt.cell_ (i := 2) rfl, HF4.out.rt.cell_ (i := 3) rfl, HF4.out.rt.cell_ (i := 4) rfl, HF4.out.rt.cell_ (i := 5) rfl⟩, HN4.out.cell_ (i := 0) rfl, HN4.out.cell_ (i := 1) rfl, HN4.out.cell_ (i := 2) rfl, HN4.out.cell_ (i := 3) rfl, HN4.out.cell_ (i := 4) rfl⟩ (fun hHeld2 => ?_)
      clear hK K hHeld9 n0 n1 n2 n3 m0 m1 m2 m3 HF9 HN9
      (try simp only [Act.put, k1, k2, k3])
      generalize (((w9.setCell ⟨B + 1, 0, none⟩ (.bool true)).setCell ⟨B + 1, 1, none⟩ (.int .i64 c)).setCell ⟨B + 1, 2, none⟩ (.int .i64 i)).setCell ⟨B + 1, 3, none⟩ (.bool true) = w5 at *
      have c0 : w5.cell? ⟨B + 1 + 1, 0, none⟩ = some (.int .i64 0) := HF4.out.ra.cell_ (i := 0) rfl
      have c1 : w5.cell? ⟨B + 1 + 1, 1, none⟩ = some (.int .i64 0) := HF4.out.ra.cell_ (i := 1) rfl
      have c2 : w5.cell? ⟨B + 1 + 1, 2, none⟩ = some (.int .u32 0) := HF4.out.ra.cell_ (i := 2) rfl
      have c3 : w5.cell? ⟨B + 1 + 1, 3, none⟩ = some (.int .u32 0) := HF4.out.ra.cell_ (i := 3) rfl
      have c4 : w5.cell? ⟨B + 1 + 1, 4, none⟩ = some (.int .u32 0) := HF4.out.ra.cell_ (i := 4) rfl
      have g0 : w5.frozen? ⟨B + 1 + 1, 0, none⟩ = false := HF4.out.ra.frozen 0
      have g1 : w5.frozen? ⟨B + 1 + 1, 1, none⟩ = false := HF4.out.ra.frozen 1
      have g2 : w5.frozen? ⟨B + 1 + 1, 2, none⟩ = false := HF4.out.ra.frozen 2
      have g3 : w5.frozen? ⟨B + 1 + 1, 3, none⟩ = false := HF4.out.ra.frozen 3
      have g4 : w5.frozen? ⟨B + 1 + 1, 4, none⟩ = false := HF4.out.ra.frozen 4
      refine mcl 8 rfl (by kernel_rfl) (by rfl) (fun K hK => ?_)
      go_simp
      have HF5 := Lib.hid (HF4.out.setA (.int .i64 k') (.int .i64 c') (.int .u32 x') (.int .u32 y') (.int .u32 o'))
      have HN5 := Lib.hid (five_far (g := B + 1 + 1) HN4.out (by have := HG.out; show g ≠ B + 1 + 1; omega) (.int .i64 k') (.int .i64 c') (.int .u32 x') (.int .u32 y') (.int .u32 o'))
      refine hK.out _ _ ⟨⟨HF5.out.rt.cell_ (i := 0) rfl, HF5.out.rt.cell_ (i := 1) rfl, HF5.out.rt.cell_ (i := 2) rfl, HF5.out.rt.cell_ (i := 3) rfl, HF5.out.rt.cell_ (i := 4) rfl, HF5.out.rt.cell_ (i := 5) rfl⟩, HN5.out.cell_ (i := 0) rfl, HN5.out.cell_ (i := 1) rfl, HN5.out.cell_ (i := 2) rfl, HN5.out.cell_ (i := 3) rfl, HN5.out.cell_ (i := 4) rfl⟩ (fun hHeld3 => ?_)
      clear hK K hHeld2 c0 c1 c2 c3 c4 g0 g1 g2 g3 g4 HF4 HN4
      (try simp only [Act.put, k1, k2, k3])
      generalize (((((w5.setCell ⟨B + 1 + 1, 0, none⟩ (.int .i64 k')).setCell ⟨B + 1 + 1, 1, none⟩ (.int .i64 c')).setCell ⟨B + 1 + 1, 2, none⟩ (.int .u32 x')).setCell ⟨B + 1 + 1, 3, none⟩ (.int .u32 y')).setCell ⟨B + 1 + 1, 4, none⟩ (.int .u32 o')) = w6 at *
      refine mtk 9 rfl (.bool ok) (fun w hSw => ?_) ?_
      · (try dsimp only at hSw)
        go_split_ands
        go_simp
      (try simp only [Act.put, k1, k2, k3])
      refine wpAnyH_done (by kernel_rfl) ?_ _
      clear hHeld3
      go_wp2
      refine post_two_tmp (P := Tryz.prog) Tryz.results50 (by rfl) HF5.out.rn Tryz.underlying53 rfl (by kernel_rfl) (by rfl) HF5.out.ra Tryz.underlying59 rfl (by kernel_rfl) rfl ⟨?_, HF5.out.only, HF5.out.memo⟩
      rw [HV.out]; rfl
  · skip
    go_simp
    have HF2 := Lib.hid (HF1.out.keep ((Only.refl Nil w2).alloc (.cells #[.int .i64 0, .int .i64 0, .int .u32 0, .int .u32 0, .int .u32 0] 59)))
    have HN := Lib.hid (Row.new w2 59 #[.int .i64 0, .int .i64 0, .int .u32 0, .int .u32 0, .int .u32 0])
    have HG := Lib.hid (show B + 1 + 1 < w2.heap.size from HF1.out.ra.lt)
    refine hK.out _ _ ⟨HF2.out.rt.cell_ (i := 0) rfl, HF2.out.rt.cell_ (i := 1) rfl, HF2.out.rt.cell_ (i := 4) rfl⟩ (fun hHeld2 => ?_)
    clear hK K hHeld HF1
    have HF1 := HF2
    have hHeld := hHeld2
    clear HF2 hHeld2
    (try simp only [Act.put, k1, k2, k3])
    generalize w2.heap.size = g at *
    generalize w2.alloc (.cells #[.int .i64 0, .int .i64 0, .int .u32 0, .int .u32 0, .int .u32 0] 59) = w5 at *
    refine mcl 7 rfl (by kernel_rfl) (by rfl) (fun K hK => ?_)
    go_simp
    refine (watch_any n i _).mono ?_
    rintro e w3 ⟨rfl, hO⟩
    have HF2 := Lib.hid (HF1.out.keep hO)
    have HN := Lib.hid (HN.out.only hO id)
    refine hK.out _ _ ⟨HF2.out.rt.cell_ (i := 0) rfl, HF2.out.rt.cell_ (i := 1) rfl, HF2.out.rt.cell_ (i := 4) rfl⟩ (fun hHeld2 => ?_)
    clear hK K hHeld hO HF1
    have HF1 := HF2
    have hHeld := hHeld2
    clear HF2 hHeld2
    (try simp only [Act.put, k1, k2, k3])
    rw [show cellI n 2 i = wc n i from rfl]
    refine mtk 8 rfl (.agg #[.int .i64 1, .int .i64 (wc n i), .int .u32 0, .int .u32 0, .int .u32 0]) (fun w hSw => ?_) ?_
    · (try dsimp only at hSw)
      go_split_ands
      go_simp
    (try simp only [Act.put, k1, k2, k3])
    refine mcl 9 rfl (by kernel_rfl) (by rfl) (fun K hK => ?_)
    go_simp
    refine (do_memo p A cp xs 1 (wc n i) 0 0 0 _ HF1.out.memo).mono ?_
    obtain ⟨k', c', x', y', hv⟩ := doVal_form xs 1 (wc n i) 0 0
    rw [oldAt xs 1 (wc n i) rfl] at hv
    rw [doNew_load, doOk_load]
    rw [hv]
    rintro e w4 ⟨rfl, hO, hM⟩
    have HF2 := Lib.hid (HF1.out.call hO hM)
    have HN := Lib.hid (HN.out.only hO (fun e => by have := HF1.out.lt _ (.inr e); have := HG.out; omega))
    refine hK.out _ _ ⟨HF2.out.rt.cell_ (i := 0) rfl, HF2.out.rt.cell_ (i := 1) rfl, HF2.out.rt.cell_ (i := 4) rfl⟩ (fun hHeld2 => ?_)
    have HV := Lib.hid hv
    clear hK K hHeld hO hM hv HF1
    have HF1 := HF2
    have hHeld := hHeld2
    clear HF2 hHeld2
    (try simp only [Act.put, k1, k2, k3])
    generalize there xs (wc n i) = ok at *
    refine mtk 10 rfl (.tuple #[.agg #[.int .i64 k', .int .i64 c', .int .u32 x', .int .u32 y', .int .u32 (wordAt xs (wc n i))], .bool ok]) (fun w hSw => ?_) ?_
    · (try dsimp only at hSw)
      go_split_ands
      go_simp
    (try simp only [Act.put, k1, k2, k3])
    refine mtk 11 rfl (.agg #[.int .i64 k', .int .i64 c', .int .u32 x', .int .u32 y', .int .u32 (wordAt xs (wc n i))]) (fun w hSw => ?_) ?_
    · (try dsimp only at hSw)
      go_split_ands
      go_simp
    (try simp only [Act.put, k1, k2, k3])
    refine mtk 12 rfl (.bool ok) (fun w hSw => ?_) ?_
    · (try dsimp only at hSw)
      go_split_ands
      go_simp
    (try simp only [Act.put, k1, k2, k3])
    generalize wordAt xs (wc n i) = o' at *
    have a0 : w4.cell? ⟨g, 0, none⟩ = some (.int .i64 0) := HN.out.cell_ (i := 0) rfl
    have a1 : w4.cell? ⟨g, 1, none⟩ = some (.int .i64 0) := HN.out.cell_ (i := 1) rfl
    have a2 : w4.cell? ⟨g, 2, none⟩ = some (.int .u32 0) := HN.out.cell_ (i := 2) rfl
    have a3 : w4.cell? ⟨g, 3, none⟩ = some (.int .u32 0) := HN.out.cell_ (i := 3) rfl
    have a4 : w4.cell? ⟨g, 4, none⟩ = some (.int .u32 0) := HN.out.cell_ (i := 4) rfl
    have b0 : w4.frozen? ⟨g, 0, none⟩ = false := HN.out.frozen 0
    have b1 : w4.frozen? ⟨g, 1, none⟩ = false := HN.out.frozen 1
    have b2 : w4.frozen? ⟨g, 2, none⟩ = false := HN.out.frozen 2
    have b3 : w4.frozen? ⟨g, 3, none⟩ = false := HN.out.frozen 3
    have b4 : w4.frozen? ⟨g, 4, none⟩ = false := HN.out.frozen 4
    refine mcl 14 rfl (by kernel_rfl) (by rfl) (fun K hK => ?_)
    go_simp
    have HF2 := Lib.hid (HF1.out.far (five_only (Only.refl (· = g) w4) (g := g) (.inr rfl) (.int .i64 k') (.int .i64 c') (.int .u32 x') (.int .u32 y') (.int .u32 o')) HG.out)
    have HN2 := Lib.hid (five HN.out (.int .i64 k') (.int .i64 c') (.int .u32 x') (.int .u32 y') (.int .u32 o'))
    refine hK.out _ _ ⟨HF2.out.rt.cell_ (i := 0) rfl, HF2.out.rt.cell_ (i := 1) rfl, HF2.out.rt.cell_ (i := 4) rfl⟩ (fun hHeld2 => ?_)
    clear hK K hHeld HF1 HN a0 a1 a2 a3 a4 b0 b1 b2 b3 b4
    (try simp only [Act.put, k1, k2, k3])
    generalize (((((w4.setCell ⟨g, 0, none⟩ (.int .i64 k')).setCell ⟨g, 1, none⟩ (.int .i64 c')).setCell ⟨g, 2, none⟩ (.int .u32 x')).setCell ⟨g, 3, none⟩ (.int .u32 y')).setCell ⟨g, 4, none⟩ (.int .u32 o')) = w7 at *
    refine mtk 15 rfl (.bool ok) (fun w hSw => ?_) ?_
    · (try dsimp only at hSw)
      go_split_ands
      go_simp
    (try simp only [Act.put, k1, k2, k3])
    refine wpAnyH_done (by kernel_rfl) ?_ _
    clear hHeld2
    have q0 := HQ.out
    have q1 : w7.cell? ⟨g, 4, none⟩ = some (.int .u32 o') := HN2.out.cell_ (i := 4) rfl
    have q2 : w7.cell? ⟨B, 3, none⟩ = some (.int .i64 c) := HF2.out.rt.cell_ (i := 3) rfl
    go_wp2_with fail
    clear q0 q1 q2
    have d0 : w7.cell? ⟨B, 0, none⟩ = some (.pointer p) := HF2.out.rt.cell_ (i := 0) rfl
    have d1 : w7.cell? ⟨B, 1, none⟩ = some (.int .i64 n) := HF2.out.rt.cell_ (i := 1) rfl
    have d2 : w7.cell? ⟨B, 2, none⟩ = some (.bool on) := HF2.out.rt.cell_ (i := 2) rfl
    have d3 : w7.cell? ⟨B, 3, none⟩ = some (.int .i64 c) := HF2.out.rt.cell_ (i := 3) rfl
    have d4 : w7.cell? ⟨B, 4, none⟩ = some (.int .i64 i) := HF2.out.rt.cell_ (i := 4) rfl
    have d5 : w7.cell? ⟨B, 5, none⟩ = some (.bool hit) := HF2.out.rt.cell_ (i := 5) rfl
    have c0 : w7.cell? ⟨g, 0, none⟩ = some (.int .i64 k') := HN2.out.cell_ (i := 0) rfl
    have c1 : w7.cell? ⟨g, 1, none⟩ = some (.int .i64 c') := HN2.out.cell_ (i := 1) rfl
    have c2 : w7.cell? ⟨g, 2, none⟩ = some (.int .u32 x') := HN2.out.cell_ (i := 2) rfl
    have c3 : w7.cell? ⟨g, 3, none⟩ = some (.int .u32 y') := HN2.out.cell_ (i := 3) rfl
    have c4 : w7.cell? ⟨g, 4, none⟩ = some (.int .u32 o') := HN2.out.cell_ (i := 4) rfl
    refine wp_region_held_drew (S := fun w' => (w'.cell? ⟨B, 0, none⟩ = some (.pointer p) ∧ w'.cell? ⟨B, 1, none⟩ = some (.int .i64 n) ∧ w'.cell? ⟨B, 2, none⟩ = some (.bool on) ∧ w'.cell? ⟨B, 3, none⟩ = some (.int .i64 c) ∧ w'.cell? ⟨B, 4, none⟩ = some (.int .i64 i) ∧ w'.cell? ⟨B, 5, none⟩ = some (.bool hit)) ∧ w'.cell? ⟨g, 0, none⟩ = some (.int .i64 k') ∧ w'.cell? ⟨g, 1, none⟩ = some (.int .i64 c') ∧ w'.cell? ⟨g, 2, none⟩ = some (.int .u32 x') ∧ w'.cell? ⟨g, 3, none⟩ = some (.int .u32 y') ∧ w'.cell? ⟨g, 4, none⟩ = some (.int .u32 o')) (by kernel_rfl) ⟨⟨d0, d1, d2, d3, d4, d5⟩, c0, c1, c2, c3, c4⟩ (fun hHeld => ?_)
    have HF3 := Lib.hid (HF2.out.keep (Only.refl Nil w7).drew)
    have HN3 := Lib.hid HN2.out.drew
    clear c0 c1 c2 c3 c4 d0 d1 d2 d3 d4 d5 HF2 HN2
    generalize w7.drew = w4 at *
    refine mtk 0 rfl (.agg #[.pointer p, .int .i64 n, .bool on, .int .i64 c, .int .i64 i, .bool hit]) (fun w hSw => ?_) ?_
    · (try dsimp only at hSw)
      go_split_ands
      go_simp
    (try simp only [Act.put, k1, k2, k3])
    refine mtk 1 rfl (.pointer (some ⟨B, 2, none⟩)) (fun w hSw => ?_) ?_
    · (try dsimp only at hSw)
      go_split_ands
      go_simp
    (try simp only [Act.put, k1, k2, k3])
    refine mtk 2 rfl (.pointer (some ⟨B, 4, none⟩)) (fun w hSw => ?_) ?_
    · (try dsimp only at hSw)
      go_split_ands
      go_simp
    (try simp only [Act.put, k1, k2, k3])
    refine mtk 3 rfl (.int .i64 i) (fun w hSw => ?_) ?_
    · (try dsimp only at hSw)
      go_split_ands
      go_simp
    (try simp only [Act.put, k1, k2, k3])
    refine mtk 5 rfl (.agg #[.int .i64 k', .int .i64 c', .int .u32 x', .int .u32 y', .int .u32 o']) (fun w hSw => ?_) ?_
    · (try dsimp only at hSw)
      go_split_ands
      go_simp
    (try simp only [Act.put, k1, k2, k3])
    refine mtk 6 rfl (.bool ok) (fun w hSw => ?_) ?_
    · (try dsimp only at hSw)
      go_split_ands
      go_simp
    (try simp only [Act.put, k1, k2, k3])
    refine mcl 4 rfl (by kernel_rfl) (by rfl) (fun K hK => ?_)
    go_simp
    refine (at_any p n on c i hit i true _).mono ?_
    rintro e w9 ⟨rfl, hO⟩
    have HF9 := Lib.hid (HF3.out.keep hO)
    have HN9 := Lib.hid (HN3.out.only hO id)
    refine hK.out _ _ ⟨⟨HF9.out.rt.cell_ (i := 0) rfl, HF9.out.rt.cell_ (i := 1) rfl, HF9.out.rt.cell_ (i := 2) rfl, HF9.out.rt.cell_ (i := 3) rfl, HF9.out.rt.cell_ (i := 4) rfl, HF9.out.rt.cell_ (i := 5) rfl⟩, HN9.out.cell_ (i := 0) rfl, HN9.out.cell_ (i := 1) rfl, HN9.out.cell_ (i := 2) rfl, HN9.out.cell_ (i := 3) rfl, HN9.out.cell_ (i := 4) rfl⟩ (fun hHeld9 => ?_)
    clear hK K hHeld hO HF3 HN3
    (try simp only [Act.put, k1, k2, k3])
    have n0 : w9.cell? ⟨B + 1, 0, none⟩ = some (.bool false) := HF9.out.rn.cell_ (i := 0) rfl
    have n1 : w9.cell? ⟨B + 1, 1, none⟩ = some (.int .i64 0) := HF9.out.rn.cell_ (i := 1) rfl
    have n2 : w9.cell? ⟨B + 1, 2, none⟩ = some (.int .i64 0) := HF9.out.rn.cell_ (i := 2) rfl
    have n3 : w9.cell? ⟨B + 1, 3, none⟩ = some (.bool false) := HF9.out.rn.cell_ (i := 3) rfl
    have m0 : w9.frozen? ⟨B + 1, 0, none⟩ = false := HF9.out.rn.frozen 0
    have m1 : w9.frozen? ⟨B + 1, 1, none⟩ = false := HF9.out.rn.frozen 1
    have m2 : w9.frozen? ⟨B + 1, 2, none⟩ = false := HF9.out.rn.frozen 2
    have m3 : w9.frozen? ⟨B + 1, 3, none⟩ = false := HF9.out.rn.frozen 3
    refine mcl 7 rfl (by kernel_rfl) (by rfl) (fun K hK => ?_)
    go_simp
    have HF4 := Lib.hid (HF9.out.setN (.bool true) (.int .i64 c) (.int .i64 i) (.bool true))
    have HN4 := Lib.hid (HN9.out.only (four_only (Only.refl (· = B + 1) w9) (g := B + 1) (.inr rfl) (.bool true) (.int .i64 c) (.int .i64 i) (.bool true)) (by have := HG.out; show ¬ g = B + 1; omega))
    refine hK.out _ _ ⟨⟨HF4.out.rt.cell_ (i := 0) rfl, HF4.out.rt.cell_ (i := 1) rfl, HF4.out.rt.cell_ (i := 2) rfl, HF4.out.rt.cell_ (i := 3) rfl, HF4.out.rt.cell_ (i := 4) rfl, HF4.out.rt.cell_ (i := 5) rfl⟩, HN4.out.cell_ (i := 0) rfl, HN4.out.cell_ (i := 1) rfl, HN4.out.cell_ (i := 2) rfl, HN4.out.cell_ (i := 3) rfl, HN4.out.cell_ (i := 4) rfl⟩ (fun hHeld2 => ?_)
    clear hK K hHeld9 n0 n1 n2 n3 m0 m1 m2 m3 HF9 HN9
    (try simp only [Act.put, k1, k2, k3])
    generalize (((w9.setCell ⟨B + 1, 0, none⟩ (.bool true)).setCell ⟨B + 1, 1, none⟩ (.int .i64 c)).setCell ⟨B + 1, 2, none⟩ (.int .i64 i)).setCell ⟨B + 1, 3, none⟩ (.bool true) = w5 at *
    have c0 : w5.cell? ⟨B + 1 + 1, 0, none⟩ = some (.int .i64 0) := HF4.out.ra.cell_ (i := 0) rfl
    have c1 : w5.cell? ⟨B + 1 + 1, 1, none⟩ = some (.int .i64 0) := HF4.out.ra.cell_ (i := 1) rfl
    have c2 : w5.cell? ⟨B + 1 + 1, 2, none⟩ = some (.int .u32 0) := HF4.out.ra.cell_ (i := 2) rfl
    have c3 : w5.cell? ⟨B + 1 + 1, 3, none⟩ = some (.int .u32 0) := HF4.out.ra.cell_ (i := 3) rfl
    have c4 : w5.cell? ⟨B + 1 + 1, 4, none⟩ = some (.int .u32 0) := HF4.out.ra.cell_ (i := 4) rfl
    have g0 : w5.frozen? ⟨B + 1 + 1, 0, none⟩ = false := HF4.out.ra.frozen 0
    have g1 : w5.frozen? ⟨B + 1 + 1, 1, none⟩ = false := HF4.out.ra.frozen 1
    have g2 : w5.frozen? ⟨B + 1 + 1, 2, none⟩ = false := HF4.out.ra.frozen 2
    have g3 : w5.frozen? ⟨B + 1 + 1, 3, none⟩ = false := HF4.out.ra.frozen 3
    have g4 : w5.frozen? ⟨B + 1 + 1, 4, none⟩ = false := HF4.out.ra.frozen 4
    refine mcl 8 rfl (by kernel_rfl) (by rfl) (fun K hK => ?_)
    go_simp
    have HF5 := Lib.hid (HF4.out.setA (.int .i64 k') (.int .i64 c') (.int .u32 x') (.int .u32 y') (.int .u32 o'))
    have HN5 := Lib.hid (five_far (g := B + 1 + 1) HN4.out (by have := HG.out; show g ≠ B + 1 + 1; omega) (.int .i64 k') (.int .i64 c') (.int .u32 x') (.int .u32 y') (.int .u32 o'))
    refine hK.out _ _ ⟨⟨HF5.out.rt.cell_ (i := 0) rfl, HF5.out.rt.cell_ (i := 1) rfl, HF5.out.rt.cell_ (i := 2) rfl, HF5.out.rt.cell_ (i := 3) rfl, HF5.out.rt.cell_ (i := 4) rfl, HF5.out.rt.cell_ (i := 5) rfl⟩, HN5.out.cell_ (i := 0) rfl, HN5.out.cell_ (i := 1) rfl, HN5.out.cell_ (i := 2) rfl, HN5.out.cell_ (i := 3) rfl, HN5.out.cell_ (i := 4) rfl⟩ (fun hHeld3 => ?_)
    clear hK K hHeld2 c0 c1 c2 c3 c4 g0 g1 g2 g3 g4 HF4 HN4
    (try simp only [Act.put, k1, k2, k3])
    generalize (((((w5.setCell ⟨B + 1 + 1, 0, none⟩ (.int .i64 k')).setCell ⟨B + 1 + 1, 1, none⟩ (.int .i64 c')).setCell ⟨B + 1 + 1, 2, none⟩ (.int .u32 x')).setCell ⟨B + 1 + 1, 3, none⟩ (.int .u32 y')).setCell ⟨B + 1 + 1, 4, none⟩ (.int .u32 o')) = w6 at *
    refine mtk 9 rfl (.bool ok) (fun w hSw => ?_) ?_
    · (try dsimp only at hSw)
      go_split_ands
      go_simp
    (try simp only [Act.put, k1, k2, k3])
    refine wpAnyH_done (by kernel_rfl) ?_ _
    clear hHeld3
    go_wp2
    refine post_two_tmp (P := Tryz.prog) Tryz.results50 (by rfl) HF5.out.rn Tryz.underlying53 rfl (by kernel_rfl) (by rfl) HF5.out.ra Tryz.underlying59 rfl (by kernel_rfl) rfl ⟨?_, HF5.out.only, HF5.out.memo⟩
    rw [HV.out]; rfl
set_option maxHeartbeats 400000 in
theorem tlook_no (p A : Option Addr) (cp : Nat) (xs : List Int) (n : Int) (on : Bool) (c i : Int) (hit : Bool) (j : Int) (hj : IntKind.i64.wrap (i + 1) = j) (w : World) (h : Memo w p A cp xs) (hq : wordAt xs (wc n i) ≠ (c + 1) % 4294967296) :
    Calls Tryz.prog 50 #[.agg #[.pointer p, .int .i64 n, .bool on, .int .i64 c, .int .i64 i, .bool hit]] w
      (Turned p A cp ⟨true, c, j, false⟩ (doVal xs 1 (wc n i) 0 0) (there xs (wc n i)) xs w) := by
  have HQ := Lib.hid (beq_eq_false_iff_ne.2 hq)
  have HJ := Lib.hid hj
  clear hq hj
  have HF0 := Lib.hid (TF.start #[.pointer p, .int .i64 n, .bool on, .int .i64 c, .int .i64 i, .bool hit] h)
  clear h
  go_enter Tryz.func50, Tryz.ntmps50
  go_wp2_with fail
  generalize ((w.alloc (.cells #[.pointer p, .int .i64 n, .bool on, .int .i64 c, .int .i64 i, .bool hit] 101)).alloc (.cells #[.bool false, .int .i64 0, .int .i64 0, .bool false] 53)).alloc (.cells #[.int .i64 0, .int .i64 0, .int .u32 0, .int .u32 0, .int .u32 0] 59) = w1 at *
  generalize w.heap.size = B at *
  have d0 : w1.cell? ⟨B, 0, none⟩ = some (.pointer p) := HF0.out.rt.cell_ (i := 0) rfl
  have d1 : w1.cell? ⟨B, 1, none⟩ = some (.int .i64 n) := HF0.out.rt.cell_ (i := 1) rfl
  have d2 : w1.cell? ⟨B, 2, none⟩ = some (.bool on) := HF0.out.rt.cell_ (i := 2) rfl
  have d3 : w1.cell? ⟨B, 3, none⟩ = some (.int .i64 c) := HF0.out.rt.cell_ (i := 3) rfl
  have d4 : w1.cell? ⟨B, 4, none⟩ = some (.int .i64 i) := HF0.out.rt.cell_ (i := 4) rfl
  have d5 : w1.cell? ⟨B, 5, none⟩ = some (.bool hit) := HF0.out.rt.cell_ (i := 5) rfl
  refine wp_region_held_drew (S := fun w' => w'.cell? ⟨B, 0, none⟩ = some (.pointer p) ∧ w'.cell? ⟨B, 1, none⟩ = some (.int .i64 n) ∧ w'.cell? ⟨B, 4, none⟩ = some (.int .i64 i)) (by kernel_rfl) ⟨d0, d1, d4⟩ (fun hHeld => ?_)
  have HF1 := Lib.hid (HF0.out.keep (Only.refl Nil w1).drew)
  clear d0 d1 d2 d3 d4 d5 HF0
  generalize w1.drew = w2 at *
  refine mtk 0 rfl (.pointer (some ⟨B, 0, none⟩)) (fun w hSw => ?_) ?_
  · (try dsimp only at hSw)
    go_split_ands
    go_simp
  (try simp only [Act.put, k1, k2, k3])
  refine mtk 1 rfl (.pointer p) (fun w hSw => ?_) ?_
  · (try dsimp only at hSw)
    go_split_ands
    go_simp
  (try simp only [Act.put, k1, k2, k3])
  refine mtk 2 rfl (.pointer (some ⟨B, 1, none⟩)) (fun w hSw => ?_) ?_
  · (try dsimp only at hSw)
    go_split_ands
    go_simp
  (try simp only [Act.put, k1, k2, k3])
  refine mtk 3 rfl (.agg #[.int .i64 n]) (fun w hSw => ?_) ?_
  · (try dsimp only at hSw)
    go_split_ands
    go_simp
  (try simp only [Act.put, k1, k2, k3])
  refine mtk 4 rfl (.pointer (some ⟨B, 2, none⟩)) (fun w hSw => ?_) ?_
  · (try dsimp only at hSw)
    go_split_ands
    go_simp
  (try simp only [Act.put, k1, k2, k3])
  refine mtk 5 rfl (.pointer (some ⟨B, 4, none⟩)) (fun w hSw => ?_) ?_
  · (try dsimp only at hSw)
    go_split_ands
    go_simp
  (try simp only [Act.put, k1, k2, k3])
  refine mtk 6 rfl (.int .i64 i) (fun w hSw => ?_) ?_
  · (try dsimp only at hSw)
    go_split_ands
    go_simp
  (try simp only [Act.put, k1, k2, k3])
  refine ready_two 7 13 (by kernel_rfl) (by rfl) (by rfl) (by rfl) (by rfl) (fun K hK => ?_) (fun K hK => ?_)
  · skip
    go_simp
    refine (watch_any n i _).mono ?_
    rintro e w3 ⟨rfl, hO⟩
    have HF2 := Lib.hid (HF1.out.keep hO)
    skip
    refine hK.out _ _ ⟨HF2.out.rt.cell_ (i := 0) rfl, HF2.out.rt.cell_ (i := 1) rfl, HF2.out.rt.cell_ (i := 4) rfl⟩ (fun hHeld2 => ?_)
    clear hK K hHeld hO HF1
    have HF1 := HF2
    have hHeld := hHeld2
    clear HF2 hHeld2
    (try simp only [Act.put, k1, k2, k3])
    rw [show cellI n 2 i = wc n i from rfl]
    refine mtk 8 rfl (.agg #[.int .i64 1, .int .i64 (wc n i), .int .u32 0, .int .u32 0, .int .u32 0]) (fun w hSw => ?_) ?_
    · (try dsimp only at hSw)
      go_split_ands
      go_simp
    (try simp only [Act.put, k1, k2, k3])
    refine ready_two 9 13 (by kernel_rfl) (by rfl) (by rfl) (by rfl) (by rfl) (fun K hK => ?_) (fun K hK => ?_)
    · skip
      go_simp
      refine (do_memo p A cp xs 1 (wc n i) 0 0 0 _ HF1.out.memo).mono ?_
      obtain ⟨k', c', x', y', hv⟩ := doVal_form xs 1 (wc n i) 0 0
      rw [oldAt xs 1 (wc n i) rfl] at hv
      rw [doNew_load, doOk_load]
      rw [hv]
      rintro e w4 ⟨rfl, hO, hM⟩
      have HF2 := Lib.hid (HF1.out.call hO hM)
      skip
      refine hK.out _ _ ⟨HF2.out.rt.cell_ (i := 0) rfl, HF2.out.rt.cell_ (i := 1) rfl, HF2.out.rt.cell_ (i := 4) rfl⟩ (fun hHeld2 => ?_)
      have HV := Lib.hid hv
      clear hK K hHeld hO hM hv HF1
      have HF1 := HF2
      have hHeld := hHeld2
      clear HF2 hHeld2
      (try simp only [Act.put, k1, k2, k3])
      generalize there xs (wc n i) = ok at *
      refine mtk 10 rfl (.tuple #[.agg #[.int .i64 k', .int .i64 c', .int .u32 x', .int .u32 y', .int .u32 (wordAt xs (wc n i))], .bool ok]) (fun w hSw => ?_) ?_
      · (try dsimp only at hSw)
        go_split_ands
        go_simp
      (try simp only [Act.put, k1, k2, k3])
      refine mtk 11 rfl (.agg #[.int .i64 k', .int .i64 c', .int .u32 x', .int .u32 y', .int .u32 (wordAt xs (wc n i))]) (fun w hSw => ?_) ?_
      · (try dsimp only at hSw)
        go_split_ands
        go_simp
      (try simp only [Act.put, k1, k2, k3])
      refine mtk 12 rfl (.bool ok) (fun w hSw => ?_) ?_
      · (try dsimp only at hSw)
        go_split_ands
        go_simp
      (try simp only [Act.put, k1, k2, k3])
      refine mcl 13 rfl (by kernel_rfl) (by rfl) (fun K hK => ?_)
      go_simp
      have HF2 := Lib.hid (HF1.out.keep ((Only.refl Nil w4).alloc (.cells #[.int .i64 0, .int .i64 0, .int .u32 0, .int .u32 0, .int .u32 0] 59)))
      have HN := Lib.hid (Row.new w4 59 #[.int .i64 0, .int .i64 0, .int .u32 0, .int .u32 0, .int .u32 0])
      have HG := Lib.hid (show B + 1 + 1 < w4.heap.size from HF1.out.ra.lt)
      refine hK.out _ _ ⟨HF2.out.rt.cell_ (i := 0) rfl, HF2.out.rt.cell_ (i := 1) rfl, HF2.out.rt.cell_ (i := 4) rfl⟩ (fun hHeld2 => ?_)
      clear hK K hHeld HF1
      have HF1 := HF2
      have hHeld := hHeld2
      clear HF2 hHeld2
      (try simp only [Act.put, k1, k2, k3])
      generalize w4.heap.size = g at *
      generalize w4.alloc (.cells #[.int .i64 0, .int .i64 0, .int .u32 0, .int .u32 0, .int .u32 0] 59) = w5 at *
      generalize wordAt xs (wc n i) = o' at *
      have a0 : w5.cell? ⟨g, 0, none⟩ = some (.int .i64 0) := HN.out.cell_ (i := 0) rfl
      have a1 : w5.cell? ⟨g, 1, none⟩ = some (.int .i64 0) := HN.out.cell_ (i := 1) rfl
      have a2 : w5.cell? ⟨g, 2, none⟩ = some (.int .u32 0) := HN.out.cell_ (i := 2) rfl
      have a3 : w5.cell? ⟨g, 3, none⟩ = some (.int .u32 0) := HN.out.cell_ (i := 3) rfl
      have a4 : w5.cell? ⟨g, 4, none⟩ = some (.int .u32 0) := HN.out.cell_ (i := 4) rfl
      have b0 : w5.frozen? ⟨g, 0, none⟩ = false := HN.out.frozen 0
      have b1 : w5.frozen? ⟨g, 1, none⟩ = false := HN.out.frozen 1
      have b2 : w5.frozen? ⟨g, 2, none⟩ = false := HN.out.frozen 2
      have b3 : w5.frozen? ⟨g, 3, none⟩ = false := HN.out.frozen 3
      have b4 : w5.frozen? ⟨g, 4, none⟩ = false := HN.out.frozen 4
      refine mcl 14 rfl (by kernel_rfl) (by rfl) (fun K hK => ?_)
      go_simp
      have HF2 := Lib.hid (HF1.out.far (five_only (Only.refl (· = g) w5) (g := g) (.inr rfl) (.int .i64 k') (.int .i64 c') (.int .u32 x') (.int .u32 y') (.int .u32 o')) HG.out)
      have HN2 := Lib.hid (five HN.out (.int .i64 k') (.int .i64 c') (.int .u32 x') (.int .u32 y') (.int .u32 o'))
      refine hK.out _ _ ⟨HF2.out.rt.cell_ (i := 0) rfl, HF2.out.rt.cell_ (i := 1) rfl, HF2.out.rt.cell_ (i := 4) rfl⟩ (fun hHeld2 => ?_)
      clear hK K hHeld HF1 HN a0 a1 a2 a3 a4 b0 b1 b2 b3 b4
      (try simp only [Act.put, k1, k2, k3])
      generalize (((((w5.setCell ⟨g, 0, none⟩ (.int .i64 k')).setCell ⟨g, 1, none⟩ (.int .i64 c')).setCell ⟨g, 2, none⟩ (.int .u32 x')).setCell ⟨g, 3, none⟩ (.int .u32 y')).setCell ⟨g, 4, none⟩ (.int .u32 o')) = w7 at *
      refine mtk 15 rfl (.bool ok) (fun w hSw => ?_) ?_
      · (try dsimp only at hSw)
        go_split_ands
        go_simp
      (try simp only [Act.put, k1, k2, k3])
      refine wpAnyH_done (by kernel_rfl) ?_ _
      clear hHeld2
      have q0 := HQ.out
      have q1 : w7.cell? ⟨g, 4, none⟩ = some (.int .u32 o') := HN2.out.cell_ (i := 4) rfl
      have q2 : w7.cell? ⟨B, 3, none⟩ = some (.int .i64 c) := HF2.out.rt.cell_ (i := 3) rfl
      go_wp2_with fail
      clear q0 q1 q2
      have d0 : w7.cell? ⟨B, 0, none⟩ = some (.pointer p) := HF2.out.rt.cell_ (i := 0) rfl
      have d1 : w7.cell? ⟨B, 1, none⟩ = some (.int .i64 n) := HF2.out.rt.cell_ (i := 1) rfl
      have d2 : w7.cell? ⟨B, 2, none⟩ = some (.bool on) := HF2.out.rt.cell_ (i := 2) rfl
      have d3 : w7.cell? ⟨B, 3, none⟩ = some (.int .i64 c) := HF2.out.rt.cell_ (i := 3) rfl
      have d4 : w7.cell? ⟨B, 4, none⟩ = some (.int .i64 i) := HF2.out.rt.cell_ (i := 4) rfl
      have d5 : w7.cell? ⟨B, 5, none⟩ = some (.bool hit) := HF2.out.rt.cell_ (i := 5) rfl
      have c0 : w7.cell? ⟨g, 0, none⟩ = some (.int .i64 k') := HN2.out.cell_ (i := 0) rfl
      have c1 : w7.cell? ⟨g, 1, none⟩ = some (.int .i64 c') := HN2.out.cell_ (i := 1) rfl
      have c2 : w7.cell? ⟨g, 2, none⟩ = some (.int .u32 x') := HN2.out.cell_ (i := 2) rfl
      have c3 : w7.cell? ⟨g, 3, none⟩ = some (.int .u32 y') := HN2.out.cell_ (i := 3) rfl
      have c4 : w7.cell? ⟨g, 4, none⟩ = some (.int .u32 o') := HN2.out.cell_ (i := 4) rfl
      refine wp_region_held_drew (S := fun w' => (w'.cell? ⟨B, 0, none⟩ = some (.pointer p) ∧ w'.cell? ⟨B, 1, none⟩ = some (.int .i64 n) ∧ w'.cell? ⟨B, 2, none⟩ = some (.bool on) ∧ w'.cell? ⟨B, 3, none⟩ = some (.int .i64 c) ∧ w'.cell? ⟨B, 4, none⟩ = some (.int .i64 i) ∧ w'.cell? ⟨B, 5, none⟩ = some (.bool hit)) ∧ w'.cell? ⟨g, 0, none⟩ = some (.int .i64 k') ∧ w'.cell? ⟨g, 1, none⟩ = some (.int .i64 c') ∧ w'.cell? ⟨g, 2, none⟩ = some (.int .u32 x') ∧ w'.cell? ⟨g, 3, none⟩ = some (.int .u32 y') ∧ w'.cell? ⟨g, 4, none⟩ = some (.int .u32 o')) (by kernel_rfl) ⟨⟨d0, d1, d2, d3, d4, d5⟩, c0, c1, c2, c3, c4⟩ (fun hHeld => ?_)
      have HF3 := Lib.hid (HF2.out.keep (Only.refl Nil w7).drew)
      have HN3 := Lib.hid HN2.out.drew
      clear c0 c1 c2 c3 c4 d0 d1 d2 d3 d4 d5 HF2 HN2
      generalize w7.drew = w4 at *
      refine mtk 0 rfl (.agg #[.pointer p, .int .i64 n, .bool on, .int .i64 c, .int .i64 i, .bool hit]) (fun w hSw => ?_) ?_
      · (try dsimp only at hSw)
        go_split_ands
        go_simp
      (try simp only [Act.put, k1, k2, k3])
      refine mtk 1 rfl (.pointer (some ⟨B, 2, none⟩)) (fun w hSw => ?_) ?_
      · (try dsimp only at hSw)
        go_split_ands
        go_simp
      (try simp only [Act.put, k1, k2, k3])
      refine mtk 2 rfl (.pointer (some ⟨B, 4, none⟩)) (fun w hSw => ?_) ?_
      · (try dsimp only at hSw)
        go_split_ands
        go_simp
      (try simp only [Act.put, k1, k2, k3])
      refine mtk 3 rfl (.int .i64 i) (fun w hSw => ?_) ?_
      · (try dsimp only at hSw)
        go_split_ands
        go_simp
      (try simp only [Act.put, k1, k2, k3])
      refine mtk 4 rfl (.int .i64 (IntKind.i64.wrap (i + 1))) (fun w hSw => ?_) ?_
      · (try dsimp only at hSw)
        go_split_ands
        go_simp
      (try simp only [Act.put, k1, k2, k3])
      refine mtk 6 rfl (.agg #[.int .i64 k', .int .i64 c', .int .u32 x', .int .u32 y', .int .u32 o']) (fun w hSw => ?_) ?_
      · (try dsimp only at hSw)
        go_split_ands
        go_simp
      (try simp only [Act.put, k1, k2, k3])
      refine mtk 7 rfl (.bool ok) (fun w hSw => ?_) ?_
      · (try dsimp only at hSw)
        go_split_ands
        go_simp
      (try simp only [Act.put, k1, k2, k3])
      rw [HJ.out]
      refine mcl 5 rfl (by kernel_rfl) (by rfl) (fun K hK => ?_)
      go_simp
      refine (at_any p n on c i hit j false _).mono ?_
      rintro e w9 ⟨rfl, hO⟩
      have HF9 := Lib.hid (HF3.out.keep hO)
      have HN9 := Lib.hid (HN3.out.only hO id)
      refine hK.out _ _ ⟨⟨HF9.out.rt.cell_ (i := 0) rfl, HF9.out.rt.cell_ (i := 1) rfl, HF9.out.rt.cell_ (i := 2) rfl, HF9.out.rt.cell_ (i := 3) rfl, HF9.out.rt.cell_ (i := 4) rfl, HF9.out.rt.cell_ (i := 5) rfl⟩, HN9.out.cell_ (i := 0) rfl, HN9.out.cell_ (i := 1) rfl, HN9.out.cell_ (i := 2) rfl, HN9.out.cell_ (i := 3) rfl, HN9.out.cell_ (i := 4) rfl⟩ (fun hHeld9 => ?_)
      clear hK K hHeld hO HF3 HN3
      (try simp only [Act.put, k1, k2, k3])
      have n0 : w9.cell? ⟨B + 1, 0, none⟩ = some (.bool false) := HF9.out.rn.cell_ (i := 0) rfl
      have n1 : w9.cell? ⟨B + 1, 1, none⟩ = some (.int .i64 0) := HF9.out.rn.cell_ (i := 1) rfl
      have n2 : w9.cell? ⟨B + 1, 2, none⟩ = some (.int .i64 0) := HF9.out.rn.cell_ (i := 2) rfl
      have n3 : w9.cell? ⟨B + 1, 3, none⟩ = some (.bool false) := HF9.out.rn.cell_ (i := 3) rfl
      have m0 : w9.frozen? ⟨B + 1, 0, none⟩ = false := HF9.out.rn.frozen 0
      have m1 : w9.frozen? ⟨B + 1, 1, none⟩ = false := HF9.out.rn.frozen 1
      have m2 : w9.frozen? ⟨B + 1, 2, none⟩ = false := HF9.out.rn.frozen 2
      have m3 : w9.frozen? ⟨B + 1, 3, none⟩ = false := HF9.out.rn.frozen 3
      refine mcl 8 rfl (by kernel_rfl) (by rfl) (fun K hK => ?_)
      go_simp
      have HF4 := Lib.hid (HF9.out.setN (.bool true) (.int .i64 c) (.int .i64 j) (.bool false))
      have HN4 := Lib.hid (HN9.out.only (four_only (Only.refl (· = B + 1) w9) (g := B + 1) (.inr rfl) (.bool true) (.int .i64 c) (.int .i64 j) (.bool false)) (by have := HG.out; show ¬ g = B + 1; omega))
      refine hK.out _ _ ⟨⟨HF4.out.rt.cell_ (i := 0) rfl, HF4.out.rt.cell_ (i := 1) rfl, HF4.out.rt.cell_ (i := 2) rfl, HF4.out.rt.cell_ (i := 3) rfl, HF4.out.rt.cell_ (i := 4) rfl, HF4.out.rt.cell_ (i := 5) rfl⟩, HN4.out.cell_ (i := 0) rfl, HN4.out.cell_ (i := 1) rfl, HN4.out.cell_ (i := 2) rfl, HN4.out.cell_ (i := 3) rfl, HN4.out.cell_ (i := 4) rfl⟩ (fun hHeld2 => ?_)
      clear hK K hHeld9 n0 n1 n2 n3 m0 m1 m2 m3 HF9 HN9
      (try simp only [Act.put, k1, k2, k3])
      generalize (((w9.setCell ⟨B + 1, 0, none⟩ (.bool true)).setCell ⟨B + 1, 1, none⟩ (.int .i64 c)).setCell ⟨B + 1, 2, none⟩ (.int .i64 j)).setCell ⟨B + 1, 3, none⟩ (.bool false) = w5 at *
      have c0 : w5.cell? ⟨B + 1 + 1, 0, none⟩ = some (.int .i64 0) := HF4.out.ra.cell_ (i := 0) rfl
      have c1 : w5.cell? ⟨B + 1 + 1, 1, none⟩ = some (.int .i64 0) := HF4.out.ra.cell_ (i := 1) rfl
      have c2 : w5.cell? ⟨B + 1 + 1, 2, none⟩ = some (.int .u32 0) := HF4.out.ra.cell_ (i := 2) rfl
      have c3 : w5.cell? ⟨B + 1 + 1, 3, none⟩ = some (.int .u32 0) := HF4.out.ra.cell_ (i := 3) rfl
      have c4 : w5.cell? ⟨B + 1 + 1, 4, none⟩ = some (.int .u32 0) := HF4.out.ra.cell_ (i := 4) rfl
      have g0 : w5.frozen? ⟨B + 1 + 1, 0, none⟩ = false := HF4.out.ra.frozen 0
      have g1 : w5.frozen? ⟨B + 1 + 1, 1, none⟩ = false := HF4.out.ra.frozen 1
      have g2 : w5.frozen? ⟨B + 1 + 1, 2, none⟩ = false := HF4.out.ra.frozen 2
      have g3 : w5.frozen? ⟨B + 1 + 1, 3, none⟩ = false := HF4.out.ra.frozen 3
      have g4 : w5.frozen? ⟨B + 1 + 1, 4, none⟩ = false := HF4.out.ra.frozen 4
      refine mcl 9 rfl (by kernel_rfl) (by rfl) (fun K hK => ?_)
      go_simp
      have HF5 := Lib.hid (HF4.out.setA (.int .i64 k') (.int .i64 c') (.int .u32 x') (.int .u32 y') (.int .u32 o'))
      have HN5 := Lib.hid (five_far (g := B + 1 + 1) HN4.out (by have := HG.out; show g ≠ B + 1 + 1; omega) (.int .i64 k') (.int .i64 c') (.int .u32 x') (.int .u32 y') (.int .u32 o'))
      refine hK.out _ _ ⟨⟨HF5.out.rt.cell_ (i := 0) rfl, HF5.out.rt.cell_ (i := 1) rfl, HF5.out.rt.cell_ (i := 2) rfl, HF5.out.rt.cell_ (i := 3) rfl, HF5.out.rt.cell_ (i := 4) rfl, HF5.out.rt.cell_ (i := 5) rfl⟩, HN5.out.cell_ (i := 0) rfl, HN5.out.cell_ (i := 1) rfl, HN5.out.cell_ (i := 2) rfl, HN5.out.cell_ (i := 3) rfl, HN5.out.cell_ (i := 4) rfl⟩ (fun hHeld3 => ?_)
      clear hK K hHeld2 c0 c1 c2 c3 c4 g0 g1 g2 g3 g4 HF4 HN4
      (try simp only [Act.put, k1, k2, k3])
      generalize (((((w5.setCell ⟨B + 1 + 1, 0, none⟩ (.int .i64 k')).setCell ⟨B + 1 + 1, 1, none⟩ (.int .i64 c')).setCell ⟨B + 1 + 1, 2, none⟩ (.int .u32 x')).setCell ⟨B + 1 + 1, 3, none⟩ (.int .u32 y')).setCell ⟨B + 1 + 1, 4, none⟩ (.int .u32 o')) = w6 at *
      refine mtk 10 rfl (.bool ok) (fun w hSw => ?_) ?_
      · (try dsimp only at hSw)
        go_split_ands
        go_simp
      (try simp only [Act.put, k1, k2, k3])
      refine wpAnyH_done (by kernel_rfl) ?_ _
      clear hHeld3
      go_wp2
      refine post_two_tmp (P := Tryz.prog) Tryz.results50 (by rfl) HF5.out.rn Tryz.underlying53 rfl (by kernel_rfl) (by rfl) HF5.out.ra Tryz.underlying59 rfl (by kernel_rfl) rfl ⟨?_, HF5.out.only, HF5.out.memo⟩
      rw [HV.out]; rfl
    · skip
      go_simp
      have HF2 := Lib.hid (HF1.out.keep ((Only.refl Nil w3).alloc (.cells #[.int .i64 0, .int .i64 0, .int .u32 0, .int .u32 0, .int .u32 0] 59)))
      have HN := Lib.hid (Row.new w3 59 #[.int .i64 0, .int .i64 0, .int .u32 0, .int .u32 0, .int .u32 0])
      have HG := Lib.hid (show B + 1 + 1 < w3.heap.size from HF1.out.ra.lt)
      refine hK.out _ _ ⟨HF2.out.rt.cell_ (i := 0) rfl, HF2.out.rt.cell_ (i := 1) rfl, HF2.out.rt.cell_ (i := 4) rfl⟩ (fun hHeld2 => ?_)
      clear hK K hHeld HF1
      have HF1 := HF2
      have hHeld := hHeld2
      clear HF2 hHeld2
      (try simp only [Act.put, k1, k2, k3])
      generalize w3.heap.size = g at *
      generalize w3.alloc (.cells #[.int .i64 0, .int .i64 0, .int .u32 0, .int .u32 0, .int .u32 0] 59) = w5 at *
      refine mcl 9 rfl (by kernel_rfl) (by rfl) (fun K hK => ?_)
      go_simp
      refine (do_memo p A cp xs 1 (wc n i) 0 0 0 _ HF1.out.memo).mono ?_
      obtain ⟨k', c', x', y', hv⟩ := doVal_form xs 1 (wc n i) 0 0
      rw [oldAt xs 1 (wc n i) rfl] at hv
      rw [doNew_load, doOk_load]
      rw [hv]
      rintro e w4 ⟨rfl, hO, hM⟩
      have HF2 := Lib.hid (HF1.out.call hO hM)
      have HN := Lib.hid (HN.out.only hO (fun e => by have := HF1.out.lt _ (.inr e); have := HG.out; omega))
      refine hK.out _ _ ⟨HF2.out.rt.cell_ (i := 0) rfl, HF2.out.rt.cell_ (i := 1) rfl, HF2.out.rt.cell_ (i := 4) rfl⟩ (fun hHeld2 => ?_)
      have HV := Lib.hid hv
      clear hK K hHeld hO hM hv HF1
      have HF1 := HF2
      have hHeld := hHeld2
      clear HF2 hHeld2
      (try simp only [Act.put, k1, k2, k3])
      generalize there xs (wc n i) = ok at *
      refine mtk 10 rfl (.tuple #[.agg #[.int .i64 k', .int .i64 c', .int .u32 x', .int .u32 y', .int .u32 (wordAt xs (wc n i))], .bool ok]) (fun w hSw => ?_) ?_
      · (try dsimp only at hSw)
        go_split_ands
        go_simp
      (try simp only [Act.put, k1, k2, k3])
      refine mtk 11 rfl (.agg #[.int .i64 k', .int .i64 c', .int .u32 x', .int .u32 y', .int .u32 (wordAt xs (wc n i))]) (fun w hSw => ?_) ?_
      · (try dsimp only at hSw)
        go_split_ands
        go_simp
      (try simp only [Act.put, k1, k2, k3])
      refine mtk 12 rfl (.bool ok) (fun w hSw => ?_) ?_
      · (try dsimp only at hSw)
        go_split_ands
        go_simp
      (try simp only [Act.put, k1, k2, k3])
      generalize wordAt xs (wc n i) = o' at *
      have a0 : w4.cell? ⟨g, 0, none⟩ = some (.int .i64 0) := HN.out.cell_ (i := 0) rfl
      have a1 : w4.cell? ⟨g, 1, none⟩ = some (.int .i64 0) := HN.out.cell_ (i := 1) rfl
      have a2 : w4.cell? ⟨g, 2, none⟩ = some (.int .u32 0) := HN.out.cell_ (i := 2) rfl
      have a3 : w4.cell? ⟨g, 3, none⟩ = some (.int .u32 0) := HN.out.cell_ (i := 3) rfl
      have a4 : w4.cell? ⟨g, 4, none⟩ = some (.int .u32 0) := HN.out.cell_ (i := 4) rfl
      have b0 : w4.frozen? ⟨g, 0, none⟩ = false := HN.out.frozen 0
      have b1 : w4.frozen? ⟨g, 1, none⟩ = false := HN.out.frozen 1
      have b2 : w4.frozen? ⟨g, 2, none⟩ = false := HN.out.frozen 2
      have b3 : w4.frozen? ⟨g, 3, none⟩ = false := HN.out.frozen 3
      have b4 : w4.frozen? ⟨g, 4, none⟩ = false := HN.out.frozen 4
      refine mcl 14 rfl (by kernel_rfl) (by rfl) (fun K hK => ?_)
      go_simp
      have HF2 := Lib.hid (HF1.out.far (five_only (Only.refl (· = g) w4) (g := g) (.inr rfl) (.int .i64 k') (.int .i64 c') (.int .u32 x') (.int .u32 y') (.int .u32 o')) HG.out)
      have HN2 := Lib.hid (five HN.out (.int .i64 k') (.int .i64 c') (.int .u32 x') (.int .u32 y') (.int .u32 o'))
      refine hK.out _ _ ⟨HF2.out.rt.cell_ (i := 0) rfl, HF2.out.rt.cell_ (i := 1) rfl, HF2.out.rt.cell_ (i := 4) rfl⟩ (fun hHeld2 => ?_)
      clear hK K hHeld HF1 HN a0 a1 a2 a3 a4 b0 b1 b2 b3 b4
      (try simp only [Act.put, k1, k2, k3])
      generalize (((((w4.setCell ⟨g, 0, none⟩ (.int .i64 k')).setCell ⟨g, 1, none⟩ (.int .i64 c')).setCell ⟨g, 2, none⟩ (.int .u32 x')).setCell ⟨g, 3, none⟩ (.int .u32 y')).setCell ⟨g, 4, none⟩ (.int .u32 o')) = w7 at *
      refine mtk 15 rfl (.bool ok) (fun w hSw => ?_) ?_
      · (try dsimp only at hSw)
        go_split_ands
        go_simp
      (try simp only [Act.put, k1, k2, k3])
      refine wpAnyH_done (by kernel_rfl) ?_ _
      clear hHeld2
      have q0 := HQ.out
      have q1 : w7.cell? ⟨g, 4, none⟩ = some (.int .u32 o') := HN2.out.cell_ (i := 4) rfl
      have q2 : w7.cell? ⟨B, 3, none⟩ = some (.int .i64 c) := HF2.out.rt.cell_ (i := 3) rfl
      go_wp2_with fail
      clear q0 q1 q2
      have d0 : w7.cell? ⟨B, 0, none⟩ = some (.pointer p) := HF2.out.rt.cell_ (i := 0) rfl
      have d1 : w7.cell? ⟨B, 1, none⟩ = some (.int .i64 n) := HF2.out.rt.cell_ (i := 1) rfl
      have d2 : w7.cell? ⟨B, 2, none⟩ = some (.bool on) := HF2.out.rt.cell_ (i := 2) rfl
      have d3 : w7.cell? ⟨B, 3, none⟩ = some (.int .i64 c) := HF2.out.rt.cell_ (i := 3) rfl
      have d4 : w7.cell? ⟨B, 4, none⟩ = some (.int .i64 i) := HF2.out.rt.cell_ (i := 4) rfl
      have d5 : w7.cell? ⟨B, 5, none⟩ = some (.bool hit) := HF2.out.rt.cell_ (i := 5) rfl
      have c0 : w7.cell? ⟨g, 0, none⟩ = some (.int .i64 k') := HN2.out.cell_ (i := 0) rfl
      have c1 : w7.cell? ⟨g, 1, none⟩ = some (.int .i64 c') := HN2.out.cell_ (i := 1) rfl
      have c2 : w7.cell? ⟨g, 2, none⟩ = some (.int .u32 x') := HN2.out.cell_ (i := 2) rfl
      have c3 : w7.cell? ⟨g, 3, none⟩ = some (.int .u32 y') := HN2.out.cell_ (i := 3) rfl
      have c4 : w7.cell? ⟨g, 4, none⟩ = some (.int .u32 o') := HN2.out.cell_ (i := 4) rfl
      refine wp_region_held_drew (S := fun w' => (w'.cell? ⟨B, 0, none⟩ = some (.pointer p) ∧ w'.cell? ⟨B, 1, none⟩ = some (.int .i64 n) ∧ w'.cell? ⟨B, 2, none⟩ = some (.bool on) ∧ w'.cell? ⟨B, 3, none⟩ = some (.int .i64 c) ∧ w'.cell? ⟨B, 4, none⟩ = some (.int .i64 i) ∧ w'.cell? ⟨B, 5, none⟩ = some (.bool hit)) ∧ w'.cell? ⟨g, 0, none⟩ = some (.int .i64 k') ∧ w'.cell? ⟨g, 1, none⟩ = some (.int .i64 c') ∧ w'.cell? ⟨g, 2, none⟩ = some (.int .u32 x') ∧ w'.cell? ⟨g, 3, none⟩ = some (.int .u32 y') ∧ w'.cell? ⟨g, 4, none⟩ = some (.int .u32 o')) (by kernel_rfl) ⟨⟨d0, d1, d2, d3, d4, d5⟩, c0, c1, c2, c3, c4⟩ (fun hHeld => ?_)
      have HF3 := Lib.hid (HF2.out.keep (Only.refl Nil w7).drew)
      have HN3 := Lib.hid HN2.out.drew
      clear c0 c1 c2 c3 c4 d0 d1 d2 d3 d4 d5 HF2 HN2
      generalize w7.drew = w4 at *
      refine mtk 0 rfl (.agg #[.pointer p, .int .i64 n, .bool on, .int .i64 c, .int .i64 i, .bool hit]) (fun w hSw => ?_) ?_
      · (try dsimp only at hSw)
        go_split_ands
        go_simp
      (try simp only [Act.put, k1, k2, k3])
      refine mtk 1 rfl (.pointer (some ⟨B, 2, none⟩)) (fun w hSw => ?_) ?_
      · (try dsimp only at hSw)
        go_split_ands
        go_simp
      (try simp only [Act.put, k1, k2, k3])
      refine mtk 2 rfl (.pointer (some ⟨B, 4, none⟩)) (fun w hSw => ?_) ?_
      · (try dsimp only at hSw)
        go_split_ands
        go_simp
      (try simp only [Act.put, k1, k2, k3])
      refine mtk 3 rfl (.int .i64 i) (fun w hSw => ?_) ?_
      · (try dsimp only at hSw)
        go_split_ands
        go_simp
      (try simp only [Act.put, k1, k2, k3])
      refine mtk 4 rfl (.int .i64 (IntKind.i64.wrap (i + 1))) (fun w hSw => ?_) ?_
      · (try dsimp only at hSw)
        go_split_ands
        go_simp
      (try simp only [Act.put, k1, k2, k3])
      refine mtk 6 rfl (.agg #[.int .i64 k', .int .i64 c', .int .u32 x', .int .u32 y', .int .u32 o']) (fun w hSw => ?_) ?_
      · (try dsimp only at hSw)
        go_split_ands
        go_simp
      (try simp only [Act.put, k1, k2, k3])
      refine mtk 7 rfl (.bool ok) (fun w hSw => ?_) ?_
      · (try dsimp only at hSw)
        go_split_ands
        go_simp
      (try simp only [Act.put, k1, k2, k3])
      rw [HJ.out]
      refine mcl 5 rfl (by kernel_rfl) (by rfl) (fun K hK => ?_)
      go_simp
      refine (at_any p n on c i hit j false _).mono ?_
      rintro e w9 ⟨rfl, hO⟩
      have HF9 := Lib.hid (HF3.out.keep hO)
      have HN9 := Lib.hid (HN3.out.only hO id)
      refine hK.out _ _ ⟨⟨HF9.out.rt.cell_ (i := 0) rfl, HF9.out.rt.cell_ (i := 1) rfl, HF9.out.rt.cell_ (i := 2) rfl, HF9.out.rt.cell_ (i := 3) rfl, HF9.out.rt.cell_ (i := 4) rfl, HF9.out.rt.cell_ (i := 5) rfl⟩, HN9.out.cell_ (i := 0) rfl, HN9.out.cell_ (i := 1) rfl, HN9.out.cell_ (i := 2) rfl, HN9.out.cell_ (i := 3) rfl, HN9.out.cell_ (i := 4) rfl⟩ (fun hHeld9 => ?_)
      clear hK K hHeld hO HF3 HN3
      (try simp only [Act.put, k1, k2, k3])
      have n0 : w9.cell? ⟨B + 1, 0, none⟩ = some (.bool false) := HF9.out.rn.cell_ (i := 0) rfl
      have n1 : w9.cell? ⟨B + 1, 1, none⟩ = some (.int .i64 0) := HF9.out.rn.cell_ (i := 1) rfl
      have n2 : w9.cell? ⟨B + 1, 2, none⟩ = some (.int .i64 0) := HF9.out.rn.cell_ (i := 2) rfl
      have n3 : w9.cell? ⟨B + 1, 3, none⟩ = some (.bool false) := HF9.out.rn.cell_ (i := 3) rfl
      have m0 : w9.frozen? ⟨B + 1, 0, none⟩ = false := HF9.out.rn.frozen 0
      have m1 : w9.frozen? ⟨B + 1, 1, none⟩ = false := HF9.out.rn.frozen 1
      have m2 : w9.frozen? ⟨B + 1, 2, none⟩ = false := HF9.out.rn.frozen 2
      have m3 : w9.frozen? ⟨B + 1, 3, none⟩ = false := HF9.out.rn.frozen 3
      refine mcl 8 rfl (by kernel_rfl) (by rfl) (fun K hK => ?_)
      go_simp
      have HF4 := Lib.hid (HF9.out.setN (.bool true) (.int .i64 c) (.int .i64 j) (.bool false))
      have HN4 := Lib.hid (HN9.out.only (four_only (Only.refl (· = B + 1) w9) (g := B + 1) (.inr rfl) (.bool true) (.int .i64 c) (.int .i64 j) (.bool false)) (by have := HG.out; show ¬ g = B + 1; omega))
      refine hK.out _ _ ⟨⟨HF4.out.rt.cell_ (i := 0) rfl, HF4.out.rt.cell_ (i := 1) rfl, HF4.out.rt.cell_ (i := 2) rfl, HF4.out.rt.cell_ (i := 3) rfl, HF4.out.rt.cell_ (i := 4) rfl, HF4.out.rt.cell_ (i := 5) rfl⟩, HN4.out.cell_ (i := 0) rfl, HN4.out.cell_ (i := 1) rfl, HN4.out.cell_ (i := 2) rfl, HN4.out.cell_ (i := 3) rfl, HN4.out.cell_ (i := 4) rfl⟩ (fun hHeld2 => ?_)
      clear hK K hHeld9 n0 n1 n2 n3 m0 m1 m2 m3 HF9 HN9
      (try simp only [Act.put, k1, k2, k3])
      generalize (((w9.setCell ⟨B + 1, 0, none⟩ (.bool true)).setCell ⟨B + 1, 1, none⟩ (.int .i64 c)).setCell ⟨B + 1, 2, none⟩ (.int .i64 j)).setCell ⟨B + 1, 3, none⟩ (.bool false) = w5 at *
      have c0 : w5.cell? ⟨B + 1 + 1, 0, none⟩ = some (.int .i64 0) := HF4.out.ra.cell_ (i := 0) rfl
      have c1 : w5.cell? ⟨B + 1 + 1, 1, none⟩ = some (.int .i64 0) := HF4.out.ra.cell_ (i := 1) rfl
      have c2 : w5.cell? ⟨B + 1 + 1, 2, none⟩ = some (.int .u32 0) := HF4.out.ra.cell_ (i := 2) rfl
      have c3 : w5.cell? ⟨B + 1 + 1, 3, none⟩ = some (.int .u32 0) := HF4.out.ra.cell_ (i := 3) rfl
      have c4 : w5.cell? ⟨B + 1 + 1, 4, none⟩ = some (.int .u32 0) := HF4.out.ra.cell_ (i := 4) rfl
      have g0 : w5.frozen? ⟨B + 1 + 1, 0, none⟩ = false := HF4.out.ra.frozen 0
      have g1 : w5.frozen? ⟨B + 1 + 1, 1, none⟩ = false := HF4.out.ra.frozen 1
      have g2 : w5.frozen? ⟨B + 1 + 1, 2, none⟩ = false := HF4.out.ra.frozen 2
      have g3 : w5.frozen? ⟨B + 1 + 1, 3, none⟩ = false := HF4.out.ra.frozen 3
      have g4 : w5.frozen? ⟨B + 1 + 1, 4, none⟩ = false := HF4.out.ra.frozen 4
      refine mcl 9 rfl (by kernel_rfl) (by rfl) (fun K hK => ?_)
      go_simp
      have HF5 := Lib.hid (HF4.out.setA (.int .i64 k') (.int .i64 c') (.int .u32 x') (.int .u32 y') (.int .u32 o'))
      have HN5 := Lib.hid (five_far (g := B + 1 + 1) HN4.out (by have := HG.out; show g ≠ B + 1 + 1; omega) (.int .i64 k') (.int .i64 c') (.int .u32 x') (.int .u32 y') (.int .u32 o'))
      refine hK.out _ _ ⟨⟨HF5.out.rt.cell_ (i := 0) rfl, HF5.out.rt.cell_ (i := 1) rfl, HF5.out.rt.cell_ (i := 2) rfl, HF5.out.rt.cell_ (i := 3) rfl, HF5.out.rt.cell_ (i := 4) rfl, HF5.out.rt.cell_ (i := 5) rfl⟩, HN5.out.cell_ (i := 0) rfl, HN5.out.cell_ (i := 1) rfl, HN5.out.cell_ (i := 2) rfl, HN5.out.cell_ (i := 3) rfl, HN5.out.cell_ (i := 4) rfl⟩ (fun hHeld3 => ?_)
      clear hK K hHeld2 c0 c1 c2 c3 c4 g0 g1 g2 g3 g4 HF4 HN4
      (try simp only [Act.put, k1, k2, k3])
      generalize (((((w5.setCell ⟨B + 1 + 1, 0, none⟩ (.int .i64 k')).setCell ⟨B + 1 + 1, 1, none⟩ (.int .i64 c')).setCell ⟨B + 1 + 1, 2, none⟩ (.int .u32 x')).setCell ⟨B + 1 + 1, 3, none⟩ (.int .u32 y')).setCell ⟨B + 1 + 1, 4, none⟩ (.int .u32 o')) = w6 at *
      refine mtk 10 rfl (.bool ok) (fun w hSw => ?_) ?_
      · (try dsimp only at hSw)
        go_split_ands
        go_simp
      (try simp only [Act.put, k1, k2, k3])
      refine wpAnyH_done (by kernel_rfl) ?_ _
      clear hHeld3
      go_wp2
      refine post_two_tmp (P := Tryz.prog) Tryz.results50 (by rfl) HF5.out.rn Tryz.underlying53 rfl (by kernel_rfl) (by rfl) HF5.out.ra Tryz.underlying59 rfl (by kernel_rfl) rfl ⟨?_, HF5.out.only, HF5.out.memo⟩
      rw [HV.out]; rfl
  · skip
    go_simp
    have HF2 := Lib.hid (HF1.out.keep ((Only.refl Nil w2).alloc (.cells #[.int .i64 0, .int .i64 0, .int .u32 0, .int .u32 0, .int .u32 0] 59)))
    have HN := Lib.hid (Row.new w2 59 #[.int .i64 0, .int .i64 0, .int .u32 0, .int .u32 0, .int .u32 0])
    have HG := Lib.hid (show B + 1 + 1 < w2.heap.size from HF1.out.ra.lt)
    refine hK.out _ _ ⟨HF2.out.rt.cell_ (i := 0) rfl, HF2.out.rt.cell_ (i := 1) rfl, HF2.out.rt.cell_ (i := 4) rfl⟩ (fun hHeld2 => ?_)
    clear hK K hHeld HF1
    have HF1 := HF2
    have hHeld := hHeld2
    clear HF2 hHeld2
    (try simp only [Act.put, k1, k2, k3])
    generalize w2.heap.size = g at *
    generalize w2.alloc (.cells #[.int .i64 0, .int .i64 0, .int .u32 0, .int .u32 0, .int .u32 0] 59) = w5 at *
    refine mcl 7 rfl (by kernel_rfl) (by rfl) (fun K hK => ?_)
    go_simp
    refine (watch_any n i _).mono ?_
    rintro e w3 ⟨rfl, hO⟩
    have HF2 := Lib.hid (HF1.out.keep hO)
    have HN := Lib.hid (HN.out.only hO id)
    refine hK.out _ _ ⟨HF2.out.rt.cell_ (i := 0) rfl, HF2.out.rt.cell_ (i := 1) rfl, HF2.out.rt.cell_ (i := 4) rfl⟩ (fun hHeld2 => ?_)
    clear hK K hHeld hO HF1
    have HF1 := HF2
    have hHeld := hHeld2
    clear HF2 hHeld2
    (try simp only [Act.put, k1, k2, k3])
    rw [show cellI n 2 i = wc n i from rfl]
    refine mtk 8 rfl (.agg #[.int .i64 1, .int .i64 (wc n i), .int .u32 0, .int .u32 0, .int .u32 0]) (fun w hSw => ?_) ?_
    · (try dsimp only at hSw)
      go_split_ands
      go_simp
    (try simp only [Act.put, k1, k2, k3])
    refine mcl 9 rfl (by kernel_rfl) (by rfl) (fun K hK => ?_)
    go_simp
    refine (do_memo p A cp xs 1 (wc n i) 0 0 0 _ HF1.out.memo).mono ?_
    obtain ⟨k', c', x', y', hv⟩ := doVal_form xs 1 (wc n i) 0 0
    rw [oldAt xs 1 (wc n i) rfl] at hv
    rw [doNew_load, doOk_load]
    rw [hv]
    rintro e w4 ⟨rfl, hO, hM⟩
    have HF2 := Lib.hid (HF1.out.call hO hM)
    have HN := Lib.hid (HN.out.only hO (fun e => by have := HF1.out.lt _ (.inr e); have := HG.out; omega))
    refine hK.out _ _ ⟨HF2.out.rt.cell_ (i := 0) rfl, HF2.out.rt.cell_ (i := 1) rfl, HF2.out.rt.cell_ (i := 4) rfl⟩ (fun hHeld2 => ?_)
    have HV := Lib.hid hv
    clear hK K hHeld hO hM hv HF1
    have HF1 := HF2
    have hHeld := hHeld2
    clear HF2 hHeld2
    (try simp only [Act.put, k1, k2, k3])
    generalize there xs (wc n i) = ok at *
    refine mtk 10 rfl (.tuple #[.agg #[.int .i64 k', .int .i64 c', .int .u32 x', .int .u32 y', .int .u32 (wordAt xs (wc n i))], .bool ok]) (fun w hSw => ?_) ?_
    · (try dsimp only at hSw)
      go_split_ands
      go_simp
    (try simp only [Act.put, k1, k2, k3])
    refine mtk 11 rfl (.agg #[.int .i64 k', .int .i64 c', .int .u32 x', .int .u32 y', .int .u32 (wordAt xs (wc n i))]) (fun w hSw => ?_) ?_
    · (try dsimp only at hSw)
      go_split_ands
      go_simp
    (try simp only [Act.put, k1, k2, k3])
    refine mtk 12 rfl (.bool ok) (fun w hSw => ?_) ?_
    · (try dsimp only at hSw)
      go_split_ands
      go_simp
    (try simp only [Act.put, k1, k2, k3])
    generalize wordAt xs (wc n i) = o' at *
    have a0 : w4.cell? ⟨g, 0, none⟩ = some (.int .i64 0) := HN.out.cell_ (i := 0) rfl
    have a1 : w4.cell? ⟨g, 1, none⟩ = some (.int .i64 0) := HN.out.cell_ (i := 1) rfl
    have a2 : w4.cell? ⟨g, 2, none⟩ = some (.int .u32 0) := HN.out.cell_ (i := 2) rfl
    have a3 : w4.cell? ⟨g, 3, none⟩ = some (.int .u32 0) := HN.out.cell_ (i := 3) rfl
    have a4 : w4.cell? ⟨g, 4, none⟩ = some (.int .u32 0) := HN.out.cell_ (i := 4) rfl
    have b0 : w4.frozen? ⟨g, 0, none⟩ = false := HN.out.frozen 0
    have b1 : w4.frozen? ⟨g, 1, none⟩ = false := HN.out.frozen 1
    have b2 : w4.frozen? ⟨g, 2, none⟩ = false := HN.out.frozen 2
    have b3 : w4.frozen? ⟨g, 3, none⟩ = false := HN.out.frozen 3
    have b4 : w4.frozen? ⟨g, 4, none⟩ = false := HN.out.frozen 4
    refine mcl 14 rfl (by kernel_rfl) (by rfl) (fun K hK => ?_)
    go_simp
    have HF2 := Lib.hid (HF1.out.far (five_only (Only.refl (· = g) w4) (g := g) (.inr rfl) (.int .i64 k') (.int .i64 c') (.int .u32 x') (.int .u32 y') (.int .u32 o')) HG.out)
    have HN2 := Lib.hid (five HN.out (.int .i64 k') (.int .i64 c') (.int .u32 x') (.int .u32 y') (.int .u32 o'))
    refine hK.out _ _ ⟨HF2.out.rt.cell_ (i := 0) rfl, HF2.out.rt.cell_ (i := 1) rfl, HF2.out.rt.cell_ (i := 4) rfl⟩ (fun hHeld2 => ?_)
    clear hK K hHeld HF1 HN a0 a1 a2 a3 a4 b0 b1 b2 b3 b4
    (try simp only [Act.put, k1, k2, k3])
    generalize (((((w4.setCell ⟨g, 0, none⟩ (.int .i64 k')).setCell ⟨g, 1, none⟩ (.int .i64 c')).setCell ⟨g, 2, none⟩ (.int .u32 x')).setCell ⟨g, 3, none⟩ (.int .u32 y')).setCell ⟨g, 4, none⟩ (.int .u32 o')) = w7 at *
    refine mtk 15 rfl (.bool ok) (fun w hSw => ?_) ?_
    · (try dsimp only at hSw)
      go_split_ands
      go_simp
    (try simp only [Act.put, k1, k2, k3])
    refine wpAnyH_done (by kernel_rfl) ?_ _
    clear hHeld2
    have q0 := HQ.out
    have q1 : w7.cell? ⟨g, 4, none⟩ = some (.int .u32 o') := HN2.out.cell_ (i := 4) rfl
    have q2 : w7.cell? ⟨B, 3, none⟩ = some (.int .i64 c) := HF2.out.rt.cell_ (i := 3) rfl
    go_wp2_with fail
    clear q0 q1 q2
    have d0 : w7.cell? ⟨B, 0, none⟩ = some (.pointer p) := HF2.out.rt.cell_ (i := 0) rfl
    have d1 : w7.cell? ⟨B, 1, none⟩ = some (.int .i64 n) := HF2.out.rt.cell_ (i := 1) rfl
    have d2 : w7.cell? ⟨B, 2, none⟩ = some (.bool on) := HF2.out.rt.cell_ (i := 2) rfl
    have d3 : w7.cell? ⟨B, 3, none⟩ = some (.int .i64 c) := HF2.out.rt.cell_ (i := 3) rfl
    have d4 : w7.cell? ⟨B, 4, none⟩ = some (.int .i64 i) := HF2.out.rt.cell_ (i := 4) rfl
    have d5 : w7.cell? ⟨B, 5, none⟩ = some (.bool hit) := HF2.out.rt.cell_ (i := 5) rfl
    have c0 : w7.cell? ⟨g, 0, none⟩ = some (.int .i64 k') := HN2.out.cell_ (i := 0) rfl
    have c1 : w7.cell? ⟨g, 1, none⟩ = some (.int .i64 c') := HN2.out.cell_ (i := 1) rfl
    have c2 : w7.cell? ⟨g, 2, none⟩ = some (.int .u32 x') := HN2.out.cell_ (i := 2) rfl
    have c3 : w7.cell? ⟨g, 3, none⟩ = some (.int .u32 y') := HN2.out.cell_ (i := 3) rfl
    have c4 : w7.cell? ⟨g, 4, none⟩ = some (.int .u32 o') := HN2.out.cell_ (i := 4) rfl
    refine wp_region_held_drew (S := fun w' => (w'.cell? ⟨B, 0, none⟩ = some (.pointer p) ∧ w'.cell? ⟨B, 1, none⟩ = some (.int .i64 n) ∧ w'.cell? ⟨B, 2, none⟩ = some (.bool on) ∧ w'.cell? ⟨B, 3, none⟩ = some (.int .i64 c) ∧ w'.cell? ⟨B, 4, none⟩ = some (.int .i64 i) ∧ w'.cell? ⟨B, 5, none⟩ = some (.bool hit)) ∧ w'.cell? ⟨g, 0, none⟩ = some (.int .i64 k') ∧ w'.cell? ⟨g, 1, none⟩ = some (.int .i64 c') ∧ w'.cell? ⟨g, 2, none⟩ = some (.int .u32 x') ∧ w'.cell? ⟨g, 3, none⟩ = some (.int .u32 y') ∧ w'.cell? ⟨g, 4, none⟩ = some (.int .u32 o')) (by kernel_rfl) ⟨⟨d0, d1, d2, d3, d4, d5⟩, c0, c1, c2, c3, c4⟩ (fun hHeld => ?_)
    have HF3 := Lib.hid (HF2.out.keep (Only.refl Nil w7).drew)
    have HN3 := Lib.hid HN2.out.drew
    clear c0 c1 c2 c3 c4 d0 d1 d2 d3 d4 d5 HF2 HN2
    generalize w7.drew = w4 at *
    refine mtk 0 rfl (.agg #[.pointer p, .int .i64 n, .bool on, .int .i64 c, .int .i64 i, .bool hit]) (fun w hSw => ?_) ?_
    · (try dsimp only at hSw)
      go_split_ands
      go_simp
    (try simp only [Act.put, k1, k2, k3])
    refine mtk 1 rfl (.pointer (some ⟨B, 2, none⟩)) (fun w hSw => ?_) ?_
    · (try dsimp only at hSw)
      go_split_ands
      go_simp
    (try simp only [Act.put, k1, k2, k3])
    refine mtk 2 rfl (.pointer (some ⟨B, 4, none⟩)) (fun w hSw => ?_) ?_
    · (try dsimp only at hSw)
      go_split_ands
      go_simp
    (try simp only [Act.put, k1, k2, k3])
    refine mtk 3 rfl (.int .i64 i) (fun w hSw => ?_) ?_
    · (try dsimp only at hSw)
      go_split_ands
      go_simp
    (try simp only [Act.put, k1, k2, k3])
    refine mtk 4 rfl (.int .i64 (IntKind.i64.wrap (i + 1))) (fun w hSw => ?_) ?_
    · (try dsimp only at hSw)
      go_split_ands
      go_simp
    (try simp only [Act.put, k1, k2, k3])
    refine mtk 6 rfl (.agg #[.int .i64 k', .int .i64 c', .int .u32 x', .int .u32 y', .int .u32 o']) (fun w hSw => ?_) ?_
    · (try dsimp only at hSw)
      go_split_ands
      go_simp
    (try simp only [Act.put, k1, k2, k3])
    refine mtk 7 rfl (.bool ok) (fun w hSw => ?_) ?_
    · (try dsimp only at hSw)
      go_split_ands
      go_simp
    (try simp only [Act.put, k1, k2, k3])
    rw [HJ.out]
    refine mcl 5 rfl (by kernel_rfl) (by rfl) (fun K hK => ?_)
    go_simp
    refine (at_any p n on c i hit j false _).mono ?_
    rintro e w9 ⟨rfl, hO⟩
    have HF9 := Lib.hid (HF3.out.keep hO)
    have HN9 := Lib.hid (HN3.out.only hO id)
    refine hK.out _ _ ⟨⟨HF9.out.rt.cell_ (i := 0) rfl, HF9.out.rt.cell_ (i := 1) rfl, HF9.out.rt.cell_ (i := 2) rfl, HF9.out.rt.cell_ (i := 3) rfl, HF9.out.rt.cell_ (i := 4) rfl, HF9.out.rt.cell_ (i := 5) rfl⟩, HN9.out.cell_ (i := 0) rfl, HN9.out.cell_ (i := 1) rfl, HN9.out.cell_ (i := 2) rfl, HN9.out.cell_ (i := 3) rfl, HN9.out.cell_ (i := 4) rfl⟩ (fun hHeld9 => ?_)
    clear hK K hHeld hO HF3 HN3
    (try simp only [Act.put, k1, k2, k3])
    have n0 : w9.cell? ⟨B + 1, 0, none⟩ = some (.bool false) := HF9.out.rn.cell_ (i := 0) rfl
    have n1 : w9.cell? ⟨B + 1, 1, none⟩ = some (.int .i64 0) := HF9.out.rn.cell_ (i := 1) rfl
    have n2 : w9.cell? ⟨B + 1, 2, none⟩ = some (.int .i64 0) := HF9.out.rn.cell_ (i := 2) rfl
    have n3 : w9.cell? ⟨B + 1, 3, none⟩ = some (.bool false) := HF9.out.rn.cell_ (i := 3) rfl
    have m0 : w9.frozen? ⟨B + 1, 0, none⟩ = false := HF9.out.rn.frozen 0
    have m1 : w9.frozen? ⟨B + 1, 1, none⟩ = false := HF9.out.rn.frozen 1
    have m2 : w9.frozen? ⟨B + 1, 2, none⟩ = false := HF9.out.rn.frozen 2
    have m3 : w9.frozen? ⟨B + 1, 3, none⟩ = false := HF9.out.rn.frozen 3
    refine mcl 8 rfl (by kernel_rfl) (by rfl) (fun K hK => ?_)
    go_simp
    have HF4 := Lib.hid (HF9.out.setN (.bool true) (.int .i64 c) (.int .i64 j) (.bool false))
    have HN4 := Lib.hid (HN9.out.only (four_only (Only.refl (· = B + 1) w9) (g := B + 1) (.inr rfl) (.bool true) (.int .i64 c) (.int .i64 j) (.bool false)) (by have := HG.out; show ¬ g = B + 1; omega))
    refine hK.out _ _ ⟨⟨HF4.out.rt.cell_ (i := 0) rfl, HF4.out.rt.cell_ (i := 1) rfl, HF4.out.rt.cell_ (i := 2) rfl, HF4.out.rt.cell_ (i := 3) rfl, HF4.out.rt.cell_ (i := 4) rfl, HF4.out.rt.cell_ (i := 5) rfl⟩, HN4.out.cell_ (i := 0) rfl, HN4.out.cell_ (i := 1) rfl, HN4.out.cell_ (i := 2) rfl, HN4.out.cell_ (i := 3) rfl, HN4.out.cell_ (i := 4) rfl⟩ (fun hHeld2 => ?_)
    clear hK K hHeld9 n0 n1 n2 n3 m0 m1 m2 m3 HF9 HN9
    (try simp only [Act.put, k1, k2, k3])
    generalize (((w9.setCell ⟨B + 1, 0, none⟩ (.bool true)).setCell ⟨B + 1, 1, none⟩ (.int .i64 c)).setCell ⟨B + 1, 2, none⟩ (.int .i64 j)).setCell ⟨B + 1, 3, none⟩ (.bool false) = w5 at *
    have c0 : w5.cell? ⟨B + 1 + 1, 0, none⟩ = some (.int .i64 0) := HF4.out.ra.cell_ (i := 0) rfl
    have c1 : w5.cell? ⟨B + 1 + 1, 1, none⟩ = some (.int .i64 0) := HF4.out.ra.cell_ (i := 1) rfl
    have c2 : w5.cell? ⟨B + 1 + 1, 2, none⟩ = some (.int .u32 0) := HF4.out.ra.cell_ (i := 2) rfl
    have c3 : w5.cell? ⟨B + 1 + 1, 3, none⟩ = some (.int .u32 0) := HF4.out.ra.cell_ (i := 3) rfl
    have c4 : w5.cell? ⟨B + 1 + 1, 4, none⟩ = some (.int .u32 0) := HF4.out.ra.cell_ (i := 4) rfl
    have g0 : w5.frozen? ⟨B + 1 + 1, 0, none⟩ = false := HF4.out.ra.frozen 0
    have g1 : w5.frozen? ⟨B + 1 + 1, 1, none⟩ = false := HF4.out.ra.frozen 1
    have g2 : w5.frozen? ⟨B + 1 + 1, 2, none⟩ = false := HF4.out.ra.frozen 2
    have g3 : w5.frozen? ⟨B + 1 + 1, 3, none⟩ = false := HF4.out.ra.frozen 3
    have g4 : w5.frozen? ⟨B + 1 + 1, 4, none⟩ = false := HF4.out.ra.frozen 4
    refine mcl 9 rfl (by kernel_rfl) (by rfl) (fun K hK => ?_)
    go_simp
    have HF5 := Lib.hid (HF4.out.setA (.int .i64 k') (.int .i64 c') (.int .u32 x') (.int .u32 y') (.int .u32 o'))
    have HN5 := Lib.hid (five_far (g := B + 1 + 1) HN4.out (by have := HG.out; show g ≠ B + 1 + 1; omega) (.int .i64 k') (.int .i64 c') (.int .u32 x') (.int .u32 y') (.int .u32 o'))
    refine hK.out _ _ ⟨⟨HF5.out.rt.cell_ (i := 0) rfl, HF5.out.rt.cell_ (i := 1) rfl, HF5.out.rt.cell_ (i := 2) rfl, HF5.out.rt.cell_ (i := 3) rfl, HF5.out.rt.cell_ (i := 4) rfl, HF5.out.rt.cell_ (i := 5) rfl⟩, HN5.out.cell_ (i := 0) rfl, HN5.out.cell_ (i := 1) rfl, HN5.out.cell_ (i := 2) rfl, HN5.out.cell_ (i := 3) rfl, HN5.out.cell_ (i := 4) rfl⟩ (fun hHeld3 => ?_)
    clear hK K hHeld2 c0 c1 c2 c3 c4 g0 g1 g2 g3 g4 HF4 HN4
    (try simp only [Act.put, k1, k2, k3])
    generalize (((((w5.setCell ⟨B + 1 + 1, 0, none⟩ (.int .i64 k')).setCell ⟨B + 1 + 1, 1, none⟩ (.int .i64 c')).setCell ⟨B + 1 + 1, 2, none⟩ (.int .u32 x')).setCell ⟨B + 1 + 1, 3, none⟩ (.int .u32 y')).setCell ⟨B + 1 + 1, 4, none⟩ (.int .u32 o')) = w6 at *
    refine mtk 10 rfl (.bool ok) (fun w hSw => ?_) ?_
    · (try dsimp only at hSw)
      go_split_ands
      go_simp
    (try simp only [Act.put, k1, k2, k3])
    refine wpAnyH_done (by kernel_rfl) ?_ _
    clear hHeld3
    go_wp2
    refine post_two_tmp (P := Tryz.prog) Tryz.results50 (by rfl) HF5.out.rn Tryz.underlying53 rfl (by kernel_rfl) (by rfl) HF5.out.ra Tryz.underlying59 rfl (by kernel_rfl) rfl ⟨?_, HF5.out.only, HF5.out.memo⟩
    rw [HV.out]; rfl
end Go.Proofs.YtocdbeonogfopaaGreat
