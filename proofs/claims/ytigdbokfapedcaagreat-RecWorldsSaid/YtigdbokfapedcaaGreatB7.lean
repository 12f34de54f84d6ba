/- WakeTurn, WakeDo. -/
import Derived.Deep.Cut
import Derived.Test.YtigdbokfapedcaaGreatB6
/- turn.give, turn.look. -/
set_option linter.unusedVariables false
set_option linter.unusedSimpArgs false
namespace Go.Proofs.YtigdbokfapedcaaGreat
open Go.RowKit

set_option maxHeartbeats 400000 in
theorem tgive_any (p A : Option Addr) (cp : Nat) (xs : List Int) (n : Int) (on : Bool) (c i : Int) (hit : Bool) (j : Int) (hj : IntKind.i64.wrap (i + 1) = j) (w : World) (h : Memo w p A cp xs) :
    Calls Tryz.prog 282 #[.agg #[.pointer p, .int .i64 n, .bool on, .int .i64 c, .int .i64 i, .bool hit]] w
      (Turned p A cp ⟨true, c, j, false⟩ (doVal xs 2 (pc n i) 1 0) (there xs (pc n i)) (st xs (pc n i) 1) w) := by
  have HF0 := Lib.hid (TF.start #[.pointer p, .int .i64 n, .bool on, .int .i64 c, .int .i64 i, .bool hit] h)
  have HJ := Lib.hid hj
  clear h hj
  go_enter Tryz.func282, Tryz.ntmps282
  go_wp2_with fail
  generalize ((w.alloc (.cells #[.pointer p, .int .i64 n, .bool on, .int .i64 c, .int .i64 i, .bool hit] 221)).alloc (.cells #[.bool false, .int .i64 0, .int .i64 0, .bool false] 82)).alloc (.cells #[.int .i64 0, .int .i64 0, .int .u32 0, .int .u32 0, .int .u32 0] 63) = w1 at *
  generalize w.heap.size = B at *
  refine (give_any p A cp xs n i _ HF0.out.memo).mono ?_
  obtain ⟨k', c', x', y', hv⟩ := doVal_form xs 2 (pc n i) 1 0
  generalize (if doOk xs 2 (pc n i) then wordAt xs (pc n i) else 0) = o' at hv
  rw [hv]
  rintro e w2 ⟨rfl, hO, hM⟩
  have HF1 := Lib.hid (HF0.out.call hO hM)
  have HV := Lib.hid hv
  clear hO hM hv HF0
  generalize there xs (pc n i) = ok at *
  have HF2 := Lib.hid (HF1.out.keep ((Only.refl Nil w2).alloc (.cells #[.int .i64 k', .int .i64 c', .int .u32 x', .int .u32 y', .int .u32 o'] 63)))
  have HN := Lib.hid (Row.new w2 63 #[.int .i64 k', .int .i64 c', .int .u32 x', .int .u32 y', .int .u32 o'])
  have HG := Lib.hid (show B + 1 + 1 < w2.heap.size from HF1.out.ra.lt)
  clear HF1
  go_wp2_with fail
  generalize w2.alloc (.cells #[.int .i64 k', .int .i64 c', .int .u32 x', .int .u32 y', .int .u32 o'] 63) = w3 at *
  generalize w2.heap.size = g at *
  refine wp_region_held_drew (S := fun w' => Six w' B (.pointer p) (.int .i64 n) (.bool on) (.int .i64 c) (.int .i64 i) (.bool hit) ∧ Five w' g (.int .i64 k') (.int .i64 c') (.int .u32 x') (.int .u32 y') (.int .u32 o')) (by kernel_rfl) ⟨HF2.out.rt.six, HN.out.five⟩ (fun hHeld => ?_)
  have HF3 := Lib.hid (HF2.out.keep (Only.refl Nil w3).drew)
  have HN3 := Lib.hid HN.out.drew
  clear HF2 HN
  generalize w3.drew = w4 at *
  refine zk 0 rfl ?_
  refine zk 1 rfl ?_
  refine zk 2 rfl ?_
  refine zk 3 rfl ?_
  refine zk 4 rfl ?_
  refine zk 6 rfl ?_
  refine zk 7 rfl ?_
  rw [HJ.out]
  refine mcl 5 rfl (by kernel_rfl) (by rfl) (fun K hK => ?_)
  go_simp
  refine (at_any p n on c i hit j false _).mono ?_
  rintro e w9 ⟨rfl, hO⟩
  have HF9 := Lib.hid (HF3.out.keep hO)
  have HN9 := Lib.hid (HN3.out.only hO id)
  refine hK.out _ _ ⟨HF9.out.rt.six, HN9.out.five⟩ (fun hHeld9 => ?_)
  clear hK K hHeld hO HF3 HN3
  have n0 : w9.cell? ⟨B + 1, 0, none⟩ = some (.bool false) := HF9.out.rn.cell_ (i := 0) rfl
  have n1 : w9.cell? ⟨B + 1, 1, none⟩ = some (.int .i64 0) := HF9.out.rn.cell_ (i := 1) rfl
  have n2 : w9.cell? ⟨B + 1, 2, none⟩ = some (.int .i64 0) := HF9.out.rn.cell_ (i := 2) rfl
  have n3 : w9.cell? ⟨B + 1, 3, none⟩ = some (.bool false) := HF9.out.rn.cell_ (i := 3) rfl
  have m0 : w9.frozen? ⟨B + 1, 0, none⟩ = false := HF9.out.rn.frozen 0
  have m1 : w9.frozen? ⟨B + 1, 1, none⟩ = false := HF9.out.rn.frozen 1
  have m2 : w9.frozen? ⟨B + 1, 2, none⟩ = false := HF9.out.rn.frozen 2
  have m3 : w9.frozen? ⟨B + 1, 3, none⟩ = false := HF9.out.rn.frozen 3
  refine mcl 8 rfl (by kernel_rfl) (by rfl) (fun K hK => ?_)
  go_simp
  have HF4 := Lib.hid (HF9.out.setN (.bool true) (.int .i64 c) (.int .i64 j) (.bool false))
  have HN4 := Lib.hid (HN9.out.only (four_only (Only.refl (· = B + 1) w9) (g := B + 1) (.inr rfl) (.bool true) (.int .i64 c) (.int .i64 j) (.bool false)) (by have := HG.out; show ¬ g = B + 1; omega))
  refine hK.out _ _ ⟨HF4.out.rt.six, HN4.out.five⟩ (fun hHeld2 => ?_)
  clear hK K hHeld9 n0 n1 n2 n3 m0 m1 m2 m3 HF9 HN9
  generalize (((w9.setCell ⟨B + 1, 0, none⟩ (.bool true)).setCell ⟨B + 1, 1, none⟩ (.int .i64 c)).setCell ⟨B + 1, 2, none⟩ (.int .i64 j)).setCell ⟨B + 1, 3, none⟩ (.bool false) = w5 at *
  have c0 : w5.cell? ⟨B + 1 + 1, 0, none⟩ = some (.int .i64 0) := HF4.out.ra.cell_ (i := 0) rfl
  have c1 : w5.cell? ⟨B + 1 + 1, 1, none⟩ = some (.int .i64 0) := HF4.out.ra.cell_ (i := 1) rfl
  have c2 : w5.cell? ⟨B + 1 + 1, 2, none⟩ = some (.int .u32 0) := HF4.out.ra.cell_ (i := 2) rfl
  have c3 : w5.cell? ⟨B + 1 + 1, 3, none⟩ = some (.int .u32 0) := HF4.out.ra.cell_ (i := 3) rfl
  have c4 : w5.cell? ⟨B + 1 + 1, 4, none⟩ = some (.int .u32 0) := HF4.out.ra.cell_ (i := 4) rfl
  have g0 : w5.frozen? ⟨B + 1 + 1, 0, none⟩ = false := HF4.out.ra.frozen 0
  have g1 : w5.frozen? ⟨B + 1 + 1, 1, none⟩ = false := HF4.out.ra.frozen 1
  have g2 : w5.frozen? ⟨B + 1 + 1, 2, none⟩ = false := HF4.out.ra.frozen 2
  have g3 : w5.frozen? ⟨B + 1 + 1, 3, none⟩ = false := HF4.out.ra.frozen 3
  have g4 : w5.frozen? ⟨B + 1 + 1, 4, none⟩ = false := HF4.out.ra.frozen 4
  refine mcl 9 rfl (by kernel_rfl) (by rfl) (fun K hK => ?_)
  go_simp
  have HF5 := Lib.hid (HF4.out.setA (.int .i64 k') (.int .i64 c') (.int .u32 x') (.int .u32 y') (.int .u32 o'))
  have HN5 := Lib.hid (five_far (g := B + 1 + 1) HN4.out (by have := HG.out; show g ≠ B + 1 + 1; omega) (.int .i64 k') (.int .i64 c') (.int .u32 x') (.int .u32 y') (.int .u32 o'))
  refine hK.out _ _ ⟨HF5.out.rt.six, HN5.out.five⟩ (fun hHeld3 => ?_)
  clear hK K hHeld2 c0 c1 c2 c3 c4 g0 g1 g2 g3 g4 HF4 HN4
  generalize (((((w5.setCell ⟨B + 1 + 1, 0, none⟩ (.int .i64 k')).setCell ⟨B + 1 + 1, 1, none⟩ (.int .i64 c')).setCell ⟨B + 1 + 1, 2, none⟩ (.int .u32 x')).setCell ⟨B + 1 + 1, 3, none⟩ (.int .u32 y')).setCell ⟨B + 1 + 1, 4, none⟩ (.int .u32 o')) = w6 at *
  refine zk 10 rfl ?_
  refine wpAnyH_done (by kernel_rfl) ?_ _
  clear hHeld3
  go_wp2
  refine post_two_tmp (P := Tryz.prog) Tryz.results282 (by rfl) HF5.out.rn Tryz.underlying82 rfl (by kernel_rfl) (by rfl) HF5.out.ra Tryz.underlying63 rfl (by kernel_rfl) rfl ⟨?_, HF5.out.only, HF5.out.memo⟩
  rw [HV.out]; rfl
/-- Two operations may come up now: whichever does. -/
theorem ready_two {P : Program} {md : Region.Mode} {ops : Array Oper} {Q : Exit → Act → World → Prop} {S : World → Prop} {fuel : Nat} {listed : Array Bool} {a : Act} {w : World} (i j : Nat) {oi oj : Oper} (hr : Region.ready md ops listed = [i, j]) (hi : ops[i]? = some oi) (hj : ops[j]? = some oj)
    (wi : Region.wanted oi (yielded ops a.tmps) = true) (wj : Region.wanted oj (yielded ops a.tmps) = true)
    (h1 : ∀ K' : Act → World → Prop, Shut (∀ a w, S w → (S w → wpAnyH P md ops Q S fuel (listed.setIfInBounds i true) a w) → K' a w) → Oper.wp P oi a w K' Q)
    (h2 : ∀ K' : Act → World → Prop, Shut (∀ a w, S w → (S w → wpAnyH P md ops Q S fuel (listed.setIfInBounds j true) a w) → K' a w) → Oper.wp P oj a w K' Q) : wpAnyH P md ops Q S (fuel + 1) listed a w :=
  wpAnyH_ready hr (by simp) (AllReadyH.cons (o := oi) hi (fun K' hK => by rw [if_pos wi]; exact h1 K' hK) (AllReadyH.cons (o := oj) hj (fun K' hK => by rw [if_pos wj]; exact h2 K' hK) AllReadyH.nil))

theorem doOk_load (xs : List Int) (c : Int) : doOk xs 1 c = there xs c := by simp [doOk, isKind]

/-- Ways that meet again: what is to be shown behind them is shown once. -/
theorem meet {F G : Nat → World → Prop} {C : Prop} (h1 : (∀ g w, F g w → G g w) → C) (h2 : ∀ g w, F g w → G g w) : C := h1 h2
set_option maxHeartbeats 1000000 in
theorem tlook_any (p A : Option Addr) (cp : Nat) (xs : List Int) (n : Int) (on : Bool) (c i : Int) (hit : Bool) (j : Int) (hj : IntKind.i64.wrap (i + 1) = j) (w : World) (h : Memo w p A cp xs) :
    Calls Tryz.prog 283 #[.agg #[.pointer p, .int .i64 n, .bool on, .int .i64 c, .int .i64 i, .bool hit]] w
      (Turned p A cp (if wordAt xs (wc n i) = (c + 1) % 4294967296 then ⟨true, c, i, true⟩ else ⟨true, c, j, false⟩) (doVal xs 1 (wc n i) 0 0) (there xs (wc n i)) xs w) := by
  have HJ := Lib.hid hj
  obtain ⟨k', c', x', y', hv⟩ := doVal_form xs 1 (wc n i) 0 0
  rw [oldAt xs 1 (wc n i) rfl] at hv
  obtain ⟨o', ho⟩ : ∃ o', wordAt xs (wc n i) = o' := ⟨_, rfl⟩
  obtain ⟨ok, hok⟩ : ∃ ok, there xs (wc n i) = ok := ⟨_, rfl⟩
  rw [ho] at hv ⊢
  rw [hok]
  obtain ⟨RR, hRR⟩ : ∃ RR : WkV, (if o' = (c + 1) % 4294967296 then ⟨true, c, i, true⟩ else ⟨true, c, j, false⟩) = RR := ⟨_, rfl⟩
  rw [hRR]
  have HRR := Lib.hid hRR
  have HV := Lib.hid hv
  have HOK := Lib.hid hok
  clear hj hv ho hok hRR
  have HF0 := Lib.hid (TF.start #[.pointer p, .int .i64 n, .bool on, .int .i64 c, .int .i64 i, .bool hit] h)
  clear h
  go_enter Tryz.func283, Tryz.ntmps283
  go_wp2_with fail
  generalize ((w.alloc (.cells #[.pointer p, .int .i64 n, .bool on, .int .i64 c, .int .i64 i, .bool hit] 221)).alloc (.cells #[.bool false, .int .i64 0, .int .i64 0, .bool false] 82)).alloc (.cells #[.int .i64 0, .int .i64 0, .int .u32 0, .int .u32 0, .int .u32 0] 63) = w1 at *
  generalize w.heap.size = B at *
  have d0 : w1.cell? ⟨B, 0, none⟩ = some (.pointer p) := HF0.out.rt.cell_ (i := 0) rfl
  have d1 : w1.cell? ⟨B, 1, none⟩ = some (.int .i64 n) := HF0.out.rt.cell_ (i := 1) rfl
  have d2 : w1.cell? ⟨B, 2, none⟩ = some (.bool on) := HF0.out.rt.cell_ (i := 2) rfl
  have d3 : w1.cell? ⟨B, 3, none⟩ = some (.int .i64 c) := HF0.out.rt.cell_ (i := 3) rfl
  have d4 : w1.cell? ⟨B, 4, none⟩ = some (.int .i64 i) := HF0.out.rt.cell_ (i := 4) rfl
  have d5 : w1.cell? ⟨B, 5, none⟩ = some (.bool hit) := HF0.out.rt.cell_ (i := 5) rfl
  refine wp_region_held_drew (S := fun w' => w'.cell? ⟨B, 0, none⟩ = some (.pointer p) ∧ w'.cell? ⟨B, 1, none⟩ = some (.int .i64 n) ∧ w'.cell? ⟨B, 4, none⟩ = some (.int .i64 i)) (by kernel_rfl) ⟨d0, d1, d4⟩ (fun hHeld => ?_)
  have HF1 := Lib.hid (HF0.out.keep (Only.refl Nil w1).drew)
  clear d0 d1 d2 d3 d4 d5 HF0
  generalize w1.drew = w2 at *
  refine zk 0 rfl ?_
  refine zk 1 rfl ?_
  refine zk 2 rfl ?_
  refine zk 3 rfl ?_
  refine zk 4 rfl ?_
  refine zk 5 rfl ?_
  refine zk 6 rfl ?_
  revert hHeld HF1
  refine meet (F := fun g w7 => TF w p A cp B #[.pointer p, .int .i64 n, .bool on, .int .i64 c, .int .i64 i, .bool hit] #[.bool false, .int .i64 0, .int .i64 0, .bool false] #[.int .i64 0, .int .i64 0, .int .u32 0, .int .u32 0, .int .u32 0] w7 xs ∧ Row w7 g 63 #[.int .i64 k', .int .i64 c', .int .u32 x', .int .u32 y', .int .u32 o'] ∧ B + 1 + 1 < g) (G := ?G) (fun key => ?branches) ?kp
  case branches =>
    intro hHeld HF1
    refine ready_two 7 13 (by kernel_rfl) (by rfl) (by rfl) (by rfl) (by rfl) (fun K hK => ?_) (fun K hK => ?_)
    · skip
      go_simp
      refine (watch_any n i _).mono ?_
      rintro e w3 ⟨rfl, hO⟩
      have HF2 := Lib.hid (HF1.out.keep hO)
      skip
      refine hK.out _ _ ⟨HF2.out.rt.cell_ (i := 0) rfl, HF2.out.rt.cell_ (i := 1) rfl, HF2.out.rt.cell_ (i := 4) rfl⟩ (fun hHeld2 => ?_)
      clear hK K hHeld hO HF1
      have HF1 := HF2
      have hHeld := hHeld2
      clear HF2 hHeld2
      rw [show cellI n 2 i = wc n i from rfl]
      refine zk 8 rfl ?_
      refine ready_two 9 13 (by kernel_rfl) (by rfl) (by rfl) (by rfl) (by rfl) (fun K hK => ?_) (fun K hK => ?_)
      · skip
        go_simp
        refine (do_memo p A cp xs 1 (wc n i) 0 0 0 _ HF1.out.memo).mono ?_
        rw [doNew_load, doOk_load, HV.out, HOK.out]
        rintro e w4 ⟨rfl, hO, hM⟩
        have HF2 := Lib.hid (HF1.out.call hO hM)
        skip
        refine hK.out _ _ ⟨HF2.out.rt.cell_ (i := 0) rfl, HF2.out.rt.cell_ (i := 1) rfl, HF2.out.rt.cell_ (i := 4) rfl⟩ (fun hHeld2 => ?_)
        clear hK K hHeld hO hM HF1
        have HF1 := HF2
        have hHeld := hHeld2
        clear HF2 hHeld2
        refine zk 10 rfl ?_
        refine zk 11 rfl ?_
        refine zk 12 rfl ?_
        refine mcl 13 rfl (by kernel_rfl) (by rfl) (fun K hK => ?_)
        go_simp
        have HF2 := Lib.hid (HF1.out.keep ((Only.refl Nil w4).alloc (.cells #[.int .i64 0, .int .i64 0, .int .u32 0, .int .u32 0, .int .u32 0] 63)))
        have HN := Lib.hid (Row.new w4 63 #[.int .i64 0, .int .i64 0, .int .u32 0, .int .u32 0, .int .u32 0])
        have HG := Lib.hid (show B + 1 + 1 < w4.heap.size from HF1.out.ra.lt)
        refine hK.out _ _ ⟨HF2.out.rt.cell_ (i := 0) rfl, HF2.out.rt.cell_ (i := 1) rfl, HF2.out.rt.cell_ (i := 4) rfl⟩ (fun hHeld2 => ?_)
        clear hK K hHeld HF1
        have HF1 := HF2
        have hHeld := hHeld2
        clear HF2 hHeld2
        generalize w4.heap.size = g at *
        generalize w4.alloc (.cells #[.int .i64 0, .int .i64 0, .int .u32 0, .int .u32 0, .int .u32 0] 63) = w5 at *
        have a0 : w5.cell? ⟨g, 0, none⟩ = some (.int .i64 0) := HN.out.cell_ (i := 0) rfl
        have a1 : w5.cell? ⟨g, 1, none⟩ = some (.int .i64 0) := HN.out.cell_ (i := 1) rfl
        have a2 : w5.cell? ⟨g, 2, none⟩ = some (.int .u32 0) := HN.out.cell_ (i := 2) rfl
        have a3 : w5.cell? ⟨g, 3, none⟩ = some (.int .u32 0) := HN.out.cell_ (i := 3) rfl
        have a4 : w5.cell? ⟨g, 4, none⟩ = some (.int .u32 0) := HN.out.cell_ (i := 4) rfl
        have b0 : w5.frozen? ⟨g, 0, none⟩ = false := HN.out.frozen 0
        have b1 : w5.frozen? ⟨g, 1, none⟩ = false := HN.out.frozen 1
        have b2 : w5.frozen? ⟨g, 2, none⟩ = false := HN.out.frozen 2
        have b3 : w5.frozen? ⟨g, 3, none⟩ = false := HN.out.frozen 3
        have b4 : w5.frozen? ⟨g, 4, none⟩ = false := HN.out.frozen 4
        refine mcl 14 rfl (by kernel_rfl) (by rfl) (fun K hK => ?_)
        go_simp
        have HF2 := Lib.hid (HF1.out.far (five_only (Only.refl (· = g) w5) (g := g) (.inr rfl) (.int .i64 k') (.int .i64 c') (.int .u32 x') (.int .u32 y') (.int .u32 o')) HG.out)
        have HN2 := Lib.hid (five HN.out (.int .i64 k') (.int .i64 c') (.int .u32 x') (.int .u32 y') (.int .u32 o'))
        refine hK.out _ _ ⟨HF2.out.rt.cell_ (i := 0) rfl, HF2.out.rt.cell_ (i := 1) rfl, HF2.out.rt.cell_ (i := 4) rfl⟩ (fun hHeld2 => ?_)
        clear hK K hHeld HF1 HN a0 a1 a2 a3 a4 b0 b1 b2 b3 b4
        generalize (((((w5.setCell ⟨g, 0, none⟩ (.int .i64 k')).setCell ⟨g, 1, none⟩ (.int .i64 c')).setCell ⟨g, 2, none⟩ (.int .u32 x')).setCell ⟨g, 3, none⟩ (.int .u32 y')).setCell ⟨g, 4, none⟩ (.int .u32 o')) = w7 at *
        refine zk 15 rfl ?_
        try simp only [Act.put, k1, k2, k3]
        refine wpAnyH_done (by kernel_rfl) ?_ _
        exact key g w7 ⟨HF2.out, HN2.out, HG.out⟩
      · skip
        go_simp
        have HF2 := Lib.hid (HF1.out.keep ((Only.refl Nil w3).alloc (.cells #[.int .i64 0, .int .i64 0, .int .u32 0, .int .u32 0, .int .u32 0] 63)))
        have HN := Lib.hid (Row.new w3 63 #[.int .i64 0, .int .i64 0, .int .u32 0, .int .u32 0, .int .u32 0])
        have HG := Lib.hid (show B + 1 + 1 < w3.heap.size from HF1.out.ra.lt)
        refine hK.out _ _ ⟨HF2.out.rt.cell_ (i := 0) rfl, HF2.out.rt.cell_ (i := 1) rfl, HF2.out.rt.cell_ (i := 4) rfl⟩ (fun hHeld2 => ?_)
        clear hK K hHeld HF1
        have HF1 := HF2
        have hHeld := hHeld2
        clear HF2 hHeld2
        generalize w3.heap.size = g at *
        generalize w3.alloc (.cells #[.int .i64 0, .int .i64 0, .int .u32 0, .int .u32 0, .int .u32 0] 63) = w5 at *
        refine mcl 9 rfl (by kernel_rfl) (by rfl) (fun K hK => ?_)
        go_simp
        refine (do_memo p A cp xs 1 (wc n i) 0 0 0 _ HF1.out.memo).mono ?_
        rw [doNew_load, doOk_load, HV.out, HOK.out]
        rintro e w4 ⟨rfl, hO, hM⟩
        have HF2 := Lib.hid (HF1.out.call hO hM)
        have HN := Lib.hid (HN.out.only hO (fun e => by have := HF1.out.lt _ (.inr e); have := HG.out; omega))
        refine hK.out _ _ ⟨HF2.out.rt.cell_ (i := 0) rfl, HF2.out.rt.cell_ (i := 1) rfl, HF2.out.rt.cell_ (i := 4) rfl⟩ (fun hHeld2 => ?_)
        clear hK K hHeld hO hM HF1
        have HF1 := HF2
        have hHeld := hHeld2
        clear HF2 hHeld2
        refine zk 10 rfl ?_
        refine zk 11 rfl ?_
        refine zk 12 rfl ?_
        have a0 : w4.cell? ⟨g, 0, none⟩ = some (.int .i64 0) := HN.out.cell_ (i := 0) rfl
        have a1 : w4.cell? ⟨g, 1, none⟩ = some (.int .i64 0) := HN.out.cell_ (i := 1) rfl
        have a2 : w4.cell? ⟨g, 2, none⟩ = some (.int .u32 0) := HN.out.cell_ (i := 2) rfl
        have a3 : w4.cell? ⟨g, 3, none⟩ = some (.int .u32 0) := HN.out.cell_ (i := 3) rfl
        have a4 : w4.cell? ⟨g, 4, none⟩ = some (.int .u32 0) := HN.out.cell_ (i := 4) rfl
        have b0 : w4.frozen? ⟨g, 0, none⟩ = false := HN.out.frozen 0
        have b1 : w4.frozen? ⟨g, 1, none⟩ = false := HN.out.frozen 1
        have b2 : w4.frozen? ⟨g, 2, none⟩ = false := HN.out.frozen 2
        have b3 : w4.frozen? ⟨g, 3, none⟩ = false := HN.out.frozen 3
        have b4 : w4.frozen? ⟨g, 4, none⟩ = false := HN.out.frozen 4
        refine mcl 14 rfl (by kernel_rfl) (by rfl) (fun K hK => ?_)
        go_simp
        have HF2 := Lib.hid (HF1.out.far (five_only (Only.refl (· = g) w4) (g := g) (.inr rfl) (.int .i64 k') (.int .i64 c') (.int .u32 x') (.int .u32 y') (.int .u32 o')) HG.out)
        have HN2 := Lib.hid (five HN.out (.int .i64 k') (.int .i64 c') (.int .u32 x') (.int .u32 y') (.int .u32 o'))
        refine hK.out _ _ ⟨HF2.out.rt.cell_ (i := 0) rfl, HF2.out.rt.cell_ (i := 1) rfl, HF2.out.rt.cell_ (i := 4) rfl⟩ (fun hHeld2 => ?_)
        clear hK K hHeld HF1 HN a0 a1 a2 a3 a4 b0 b1 b2 b3 b4
        generalize (((((w4.setCell ⟨g, 0, none⟩ (.int .i64 k')).setCell ⟨g, 1, none⟩ (.int .i64 c')).setCell ⟨g, 2, none⟩ (.int .u32 x')).setCell ⟨g, 3, none⟩ (.int .u32 y')).setCell ⟨g, 4, none⟩ (.int .u32 o')) = w7 at *
        refine zk 15 rfl ?_
        try simp only [Act.put, k1, k2, k3]
        refine wpAnyH_done (by kernel_rfl) ?_ _
        exact key g w7 ⟨HF2.out, HN2.out, HG.out⟩
    · skip
      go_simp
      have HF2 := Lib.hid (HF1.out.keep ((Only.refl Nil w2).alloc (.cells #[.int .i64 0, .int .i64 0, .int .u32 0, .int .u32 0, .int .u32 0] 63)))
      have HN := Lib.hid (Row.new w2 63 #[.int .i64 0, .int .i64 0, .int .u32 0, .int .u32 0, .int .u32 0])
      have HG := Lib.hid (show B + 1 + 1 < w2.heap.size from HF1.out.ra.lt)
      refine hK.out _ _ ⟨HF2.out.rt.cell_ (i := 0) rfl, HF2.out.rt.cell_ (i := 1) rfl, HF2.out.rt.cell_ (i := 4) rfl⟩ (fun hHeld2 => ?_)
      clear hK K hHeld HF1
      have HF1 := HF2
      have hHeld := hHeld2
      clear HF2 hHeld2
      generalize w2.heap.size = g at *
      generalize w2.alloc (.cells #[.int .i64 0, .int .i64 0, .int .u32 0, .int .u32 0, .int .u32 0] 63) = w5 at *
      refine mcl 7 rfl (by kernel_rfl) (by rfl) (fun K hK => ?_)
      go_simp
      refine (watch_any n i _).mono ?_
      rintro e w3 ⟨rfl, hO⟩
      have HF2 := Lib.hid (HF1.out.keep hO)
      have HN := Lib.hid (HN.out.only hO id)
      refine hK.out _ _ ⟨HF2.out.rt.cell_ (i := 0) rfl, HF2.out.rt.cell_ (i := 1) rfl, HF2.out.rt.cell_ (i := 4) rfl⟩ (fun hHeld2 => ?_)
      clear hK K hHeld hO HF1
      have HF1 := HF2
      have hHeld := hHeld2
      clear HF2 hHeld2
      rw [show cellI n 2 i = wc n i from rfl]
      refine zk 8 rfl ?_
      refine mcl 9 rfl (by kernel_rfl) (by rfl) (fun K hK => ?_)
      go_simp
      refine (do_memo p A cp xs 1 (wc n i) 0 0 0 _ HF1.out.memo).mono ?_
      rw [doNew_load, doOk_load, HV.out, HOK.out]
      rintro e w4 ⟨rfl, hO, hM⟩
      have HF2 := Lib.hid (HF1.out.call hO hM)
      have HN := Lib.hid (HN.out.only hO (fun e => by have := HF1.out.lt _ (.inr e); have := HG.out; omega))
      refine hK.out _ _ ⟨HF2.out.rt.cell_ (i := 0) rfl, HF2.out.rt.cell_ (i := 1) rfl, HF2.out.rt.cell_ (i := 4) rfl⟩ (fun hHeld2 => ?_)
      clear hK K hHeld hO hM HF1
      have HF1 := HF2
      have hHeld := hHeld2
      clear HF2 hHeld2
      refine zk 10 rfl ?_
      refine zk 11 rfl ?_
      refine zk 12 rfl ?_
      have a0 : w4.cell? ⟨g, 0, none⟩ = some (.int .i64 0) := HN.out.cell_ (i := 0) rfl
      have a1 : w4.cell? ⟨g, 1, none⟩ = some (.int .i64 0) := HN.out.cell_ (i := 1) rfl
      have a2 : w4.cell? ⟨g, 2, none⟩ = some (.int .u32 0) := HN.out.cell_ (i := 2) rfl
      have a3 : w4.cell? ⟨g, 3, none⟩ = some (.int .u32 0) := HN.out.cell_ (i := 3) rfl
      have a4 : w4.cell? ⟨g, 4, none⟩ = some (.int .u32 0) := HN.out.cell_ (i := 4) rfl
      have b0 : w4.frozen? ⟨g, 0, none⟩ = false := HN.out.frozen 0
      have b1 : w4.frozen? ⟨g, 1, none⟩ = false := HN.out.frozen 1
      have b2 : w4.frozen? ⟨g, 2, none⟩ = false := HN.out.frozen 2
      have b3 : w4.frozen? ⟨g, 3, none⟩ = false := HN.out.frozen 3
      have b4 : w4.frozen? ⟨g, 4, none⟩ = false := HN.out.frozen 4
      refine mcl 14 rfl (by kernel_rfl) (by rfl) (fun K hK => ?_)
      go_simp
      have HF2 := Lib.hid (HF1.out.far (five_only (Only.refl (· = g) w4) (g := g) (.inr rfl) (.int .i64 k') (.int .i64 c') (.int .u32 x') (.int .u32 y') (.int .u32 o')) HG.out)
      have HN2 := Lib.hid (five HN.out (.int .i64 k') (.int .i64 c') (.int .u32 x') (.int .u32 y') (.int .u32 o'))
      refine hK.out _ _ ⟨HF2.out.rt.cell_ (i := 0) rfl, HF2.out.rt.cell_ (i := 1) rfl, HF2.out.rt.cell_ (i := 4) rfl⟩ (fun hHeld2 => ?_)
      clear hK K hHeld HF1 HN a0 a1 a2 a3 a4 b0 b1 b2 b3 b4
      generalize (((((w4.setCell ⟨g, 0, none⟩ (.int .i64 k')).setCell ⟨g, 1, none⟩ (.int .i64 c')).setCell ⟨g, 2, none⟩ (.int .u32 x')).setCell ⟨g, 3, none⟩ (.int .u32 y')).setCell ⟨g, 4, none⟩ (.int .u32 o')) = w7 at *
      refine zk 15 rfl ?_
      try simp only [Act.put, k1, k2, k3]
      refine wpAnyH_done (by kernel_rfl) ?_ _
      exact key g w7 ⟨HF2.out, HN2.out, HG.out⟩
  case kp =>
    rintro g w7 ⟨hF, hN, hG⟩
    have HF2 := Lib.hid hF
    have HN2 := Lib.hid hN
    have HG := Lib.hid hG
    clear hF hN hG
    by_cases hq : o' = (c + 1) % 4294967296
    · have eR : (⟨true, c, i, true⟩ : WkV) = RR := (if_pos hq).symm.trans HRR.out
      subst eR
      have q0 := beq_iff_eq.2 hq
      clear hq HRR
      have q1 : w7.cell? ⟨g, 4, none⟩ = some (.int .u32 o') := HN2.out.cell_ (i := 4) rfl
      have q2 : w7.cell? ⟨B, 3, none⟩ = some (.int .i64 c) := HF2.out.rt.cell_ (i := 3) rfl
      go_wp2_with fail
      clear q0 q1 q2
      refine wp_region_held_drew (S := fun w' => Six w' B (.pointer p) (.int .i64 n) (.bool on) (.int .i64 c) (.int .i64 i) (.bool hit) ∧ Five w' g (.int .i64 k') (.int .i64 c') (.int .u32 x') (.int .u32 y') (.int .u32 o')) (by kernel_rfl) ⟨HF2.out.rt.six, HN2.out.five⟩ (fun hHeld => ?_)
      have HF3 := Lib.hid (HF2.out.keep (Only.refl Nil w7).drew)
      have HN3 := Lib.hid HN2.out.drew
      clear HF2 HN2
      generalize w7.drew = w4 at *
      refine zk 0 rfl ?_
      refine zk 1 rfl ?_
      refine zk 2 rfl ?_
      refine zk 3 rfl ?_
      refine zk 5 rfl ?_
      refine zk 6 rfl ?_
      refine mcl 4 rfl (by kernel_rfl) (by rfl) (fun K hK => ?_)
      go_simp
      refine (at_any p n on c i hit i true _).mono ?_
      rintro e w9 ⟨rfl, hO⟩
      have HF9 := Lib.hid (HF3.out.keep hO)
      have HN9 := Lib.hid (HN3.out.only hO id)
      refine hK.out _ _ ⟨HF9.out.rt.six, HN9.out.five⟩ (fun hHeld9 => ?_)
      clear hK K hHeld hO HF3 HN3
      have n0 : w9.cell? ⟨B + 1, 0, none⟩ = some (.bool false) := HF9.out.rn.cell_ (i := 0) rfl
      have n1 : w9.cell? ⟨B + 1, 1, none⟩ = some (.int .i64 0) := HF9.out.rn.cell_ (i := 1) rfl
      have n2 : w9.cell? ⟨B + 1, 2, none⟩ = some (.int .i64 0) := HF9.out.rn.cell_ (i := 2) rfl
      have n3 : w9.cell? ⟨B + 1, 3, none⟩ = some (.bool false) := HF9.out.rn.cell_ (i := 3) rfl
      have m0 : w9.frozen? ⟨B + 1, 0, none⟩ = false := HF9.out.rn.frozen 0
      have m1 : w9.frozen? ⟨B + 1, 1, none⟩ = false := HF9.out.rn.frozen 1
      have m2 : w9.frozen? ⟨B + 1, 2, none⟩ = false := HF9.out.rn.frozen 2
      have m3 : w9.frozen? ⟨B + 1, 3, none⟩ = false := HF9.out.rn.frozen 3
      refine mcl 7 rfl (by kernel_rfl) (by rfl) (fun K hK => ?_)
      go_simp
      have HF4 := Lib.hid (HF9.out.setN (.bool true) (.int .i64 c) (.int .i64 i) (.bool true))
      have HN4 := Lib.hid (HN9.out.only (four_only (Only.refl (· = B + 1) w9) (g := B + 1) (.inr rfl) (.bool true) (.int .i64 c) (.int .i64 i) (.bool true)) (by have := HG.out; show ¬ g = B + 1; omega))
      refine hK.out _ _ ⟨HF4.out.rt.six, HN4.out.five⟩ (fun hHeld2 => ?_)
      clear hK K hHeld9 n0 n1 n2 n3 m0 m1 m2 m3 HF9 HN9
      generalize (((w9.setCell ⟨B + 1, 0, none⟩ (.bool true)).setCell ⟨B + 1, 1, none⟩ (.int .i64 c)).setCell ⟨B + 1, 2, none⟩ (.int .i64 i)).setCell ⟨B + 1, 3, none⟩ (.bool true) = w5 at *
      have c0 : w5.cell? ⟨B + 1 + 1, 0, none⟩ = some (.int .i64 0) := HF4.out.ra.cell_ (i := 0) rfl
      have c1 : w5.cell? ⟨B + 1 + 1, 1, none⟩ = some (.int .i64 0) := HF4.out.ra.cell_ (i := 1) rfl
      have c2 : w5.cell? ⟨B + 1 + 1, 2, none⟩ = some (.int .u32 0) := HF4.out.ra.cell_ (i := 2) rfl
      have c3 : w5.cell? ⟨B + 1 + 1, 3, none⟩ = some (.int .u32 0) := HF4.out.ra.cell_ (i := 3) rfl
      have c4 : w5.cell? ⟨B + 1 + 1, 4, none⟩ = some (.int .u32 0) := HF4.out.ra.cell_ (i := 4) rfl
      have g0 : w5.frozen? ⟨B + 1 + 1, 0, none⟩ = false := HF4.out.ra.frozen 0
      have g1 : w5.frozen? ⟨B + 1 + 1, 1, none⟩ = false := HF4.out.ra.frozen 1
      have g2 : w5.frozen? ⟨B + 1 + 1, 2, none⟩ = false := HF4.out.ra.frozen 2
      have g3 : w5.frozen? ⟨B + 1 + 1, 3, none⟩ = false := HF4.out.ra.frozen 3
      have g4 : w5.frozen? ⟨B + 1 + 1, 4, none⟩ = false := HF4.out.ra.frozen 4
      refine mcl 8 rfl (by kernel_rfl) (by rfl) (fun K hK => ?_)
      go_simp
      have HF5 := Lib.hid (HF4.out.setA (.int .i64 k') (.int .i64 c') (.int .u32 x') (.int .u32 y') (.int .u32 o'))
      have HN5 := Lib.hid (five_far (g := B + 1 + 1) HN4.out (by have := HG.out; show g ≠ B + 1 + 1; omega) (.int .i64 k') (.int .i64 c') (.int .u32 x') (.int .u32 y') (.int .u32 o'))
      refine hK.out _ _ ⟨HF5.out.rt.six, HN5.out.five⟩ (fun hHeld3 => ?_)
      clear hK K hHeld2 c0 c1 c2 c3 c4 g0 g1 g2 g3 g4 HF4 HN4
      generalize (((((w5.setCell ⟨B + 1 + 1, 0, none⟩ (.int .i64 k')).setCell ⟨B + 1 + 1, 1, none⟩ (.int .i64 c')).setCell ⟨B + 1 + 1, 2, none⟩ (.int .u32 x')).setCell ⟨B + 1 + 1, 3, none⟩ (.int .u32 y')).setCell ⟨B + 1 + 1, 4, none⟩ (.int .u32 o')) = w6 at *
      refine zk 9 rfl ?_
      refine wpAnyH_done (by kernel_rfl) ?_ _
      clear hHeld3
      go_wp2
      refine post_two_tmp (P := Tryz.prog) Tryz.results283 (by rfl) HF5.out.rn Tryz.underlying82 rfl (by kernel_rfl) (by rfl) HF5.out.ra Tryz.underlying63 rfl (by kernel_rfl) rfl ⟨?_, HF5.out.only, HF5.out.memo⟩
      rw [HV.out]; rfl
    · have eR : (⟨true, c, j, false⟩ : WkV) = RR := (if_neg hq).symm.trans HRR.out
      subst eR
      have q0 := beq_eq_false_iff_ne.2 hq
      clear hq HRR
      have q1 : w7.cell? ⟨g, 4, none⟩ = some (.int .u32 o') := HN2.out.cell_ (i := 4) rfl
      have q2 : w7.cell? ⟨B, 3, none⟩ = some (.int .i64 c) := HF2.out.rt.cell_ (i := 3) rfl
      go_wp2_with fail
      clear q0 q1 q2
      refine wp_region_held_drew (S := fun w' => Six w' B (.pointer p) (.int .i64 n) (.bool on) (.int .i64 c) (.int .i64 i) (.bool hit) ∧ Five w' g (.int .i64 k') (.int .i64 c') (.int .u32 x') (.int .u32 y') (.int .u32 o')) (by kernel_rfl) ⟨HF2.out.rt.six, HN2.out.five⟩ (fun hHeld => ?_)
      have HF3 := Lib.hid (HF2.out.keep (Only.refl Nil w7).drew)
      have HN3 := Lib.hid HN2.out.drew
      clear HF2 HN2
      generalize w7.drew = w4 at *
      refine zk 0 rfl ?_
      refine zk 1 rfl ?_
      refine zk 2 rfl ?_
      refine zk 3 rfl ?_
      refine zk 4 rfl ?_
      refine zk 6 rfl ?_
      refine zk 7 rfl ?_
      rw [HJ.out]
      refine mcl 5 rfl (by kernel_rfl) (by rfl) (fun K hK => ?_)
      go_simp
      refine (at_any p n on c i hit j false _).mono ?_
      rintro e w9 ⟨rfl, hO⟩
      have HF9 := Lib.hid (HF3.out.keep hO)
      have HN9 := Lib.hid (HN3.out.only hO id)
      refine hK.out _ _ ⟨HF9.out.rt.six, HN9.out.five⟩ (fun hHeld9 => ?_)
      clear hK K hHeld hO HF3 HN3
      have n0 : w9.cell? ⟨B + 1, 0, none⟩ = some (.bool false) := HF9.out.rn.cell_ (i := 0) rfl
      have n1 : w9.cell? ⟨B + 1, 1, none⟩ = some (.int .i64 0) := HF9.out.rn.cell_ (i := 1) rfl
      have n2 : w9.cell? ⟨B + 1, 2, none⟩ = some (.int .i64 0) := HF9.out.rn.cell_ (i := 2) rfl
      have n3 : w9.cell? ⟨B + 1, 3, none⟩ = some (.bool false) := HF9.out.rn.cell_ (i := 3) rfl
      have m0 : w9.frozen? ⟨B + 1, 0, none⟩ = false := HF9.out.rn.frozen 0
      have m1 : w9.frozen? ⟨B + 1, 1, none⟩ = false := HF9.out.rn.frozen 1
      have m2 : w9.frozen? ⟨B + 1, 2, none⟩ = false := HF9.out.rn.frozen 2
      have m3 : w9.frozen? ⟨B + 1, 3, none⟩ = false := HF9.out.rn.frozen 3
      refine mcl 8 rfl (by kernel_rfl) (by rfl) (fun K hK => ?_)
      go_simp
      have HF4 := Lib.hid (HF9.out.setN (.bool true) (.int .i64 c) (.int .i64 j) (.bool false))
      have HN4 := Lib.hid (HN9.out.only (four_only (Only.refl (· = B + 1) w9) (g := B + 1) (.inr rfl) (.bool true) (.int .i64 c) (.int .i64 j) (.bool false)) (by have := HG.out; show ¬ g = B + 1; omega))
      refine hK.out _ _ ⟨HF4.out.rt.six, HN4.out.five⟩ (fun hHeld2 => ?_)
      clear hK K hHeld9 n0 n1 n2 n3 m0 m1 m2 m3 HF9 HN9
      generalize (((w9.setCell ⟨B + 1, 0, none⟩ (.bool true)).setCell ⟨B + 1, 1, none⟩ (.int .i64 c)).setCell ⟨B + 1, 2, none⟩ (.int .i64 j)).setCell ⟨B + 1, 3, none⟩ (.bool false) = w5 at *
      have c0 : w5.cell? ⟨B + 1 + 1, 0, none⟩ = some (.int .i64 0) := HF4.out.ra.cell_ (i := 0) rfl
      have c1 : w5.cell? ⟨B + 1 + 1, 1, none⟩ = some (.int .i64 0) := HF4.out.ra.cell_ (i := 1) rfl
      have c2 : w5.cell? ⟨B + 1 + 1, 2, none⟩ = some (.int .u32 0) := HF4.out.ra.cell_ (i := 2) rfl
      have c3 : w5.cell? ⟨B + 1 + 1, 3, none⟩ = some (.int .u32 0) := HF4.out.ra.cell_ (i := 3) rfl
      have c4 : w5.cell? ⟨B + 1 + 1, 4, none⟩ = some (.int .u32 0) := HF4.out.ra.cell_ (i := 4) rfl
      have g0 : w5.frozen? ⟨B + 1 + 1, 0, none⟩ = false := HF4.out.ra.frozen 0
      have g1 : w5.frozen? ⟨B + 1 + 1, 1, none⟩ = false := HF4.out.ra.frozen 1
      have g2 : w5.frozen? ⟨B + 1 + 1, 2, none⟩ = false := HF4.out.ra.frozen 2
      have g3 : w5.frozen? ⟨B + 1 + 1, 3, none⟩ = false := HF4.out.ra.frozen 3
      have g4 : w5.frozen? ⟨B + 1 + 1, 4, none⟩ = false := HF4.out.ra.frozen 4
      refine mcl 9 rfl (by kernel_rfl) (by rfl) (fun K hK => ?_)
      go_simp
      have HF5 := Lib.hid (HF4.out.setA (.int .i64 k') (.int .i64 c') (.int .u32 x') (.int .u32 y') (.int .u32 o'))
      have HN5 := Lib.hid (five_far (g := B + 1 + 1) HN4.out (by have := HG.out; show g ≠ B + 1 + 1; omega) (.int .i64 k') (.int .i64 c') (.int .u32 x') (.int .u32 y') (.int .u32 o'))
      refine hK.out _ _ ⟨HF5.out.rt.six, HN5.out.five⟩ (fun hHeld3 => ?_)
      clear hK K hHeld2 c0 c1 c2 c3 c4 g0 g1 g2 g3 g4 HF4 HN4
      generalize (((((w5.setCell ⟨B + 1 + 1, 0, none⟩ (.int .i64 k')).setCell ⟨B + 1 + 1, 1, none⟩ (.int .i64 c')).setCell ⟨B + 1 + 1, 2, none⟩ (.int .u32 x')).setCell ⟨B + 1 + 1, 3, none⟩ (.int .u32 y')).setCell ⟨B + 1 + 1, 4, none⟩ (.int .u32 o')) = w6 at *
      refine zk 10 rfl ?_
      refine wpAnyH_done (by kernel_rfl) ?_ _
      clear hHeld3
      go_wp2
      refine post_two_tmp (P := Tryz.prog) Tryz.results283 (by rfl) HF5.out.rn Tryz.underlying82 rfl (by kernel_rfl) (by rfl) HF5.out.ra Tryz.underlying63 rfl (by kernel_rfl) rfl ⟨?_, HF5.out.only, HF5.out.memo⟩
      rw [HV.out]; rfl
theorem tlook_yes (p A : Option Addr) (cp : Nat) (xs : List Int) (n : Int) (on : Bool) (c i : Int) (hit : Bool) (w : World) (h : Memo w p A cp xs) (hq : wordAt xs (wc n i) = (c + 1) % 4294967296) :
    Calls Tryz.prog 283 #[.agg #[.pointer p, .int .i64 n, .bool on, .int .i64 c, .int .i64 i, .bool hit]] w (Turned p A cp ⟨true, c, i, true⟩ (doVal xs 1 (wc n i) 0 0) (there xs (wc n i)) xs w) := by
  have := tlook_any p A cp xs n on c i hit _ rfl w h
  rwa [if_pos hq] at this
theorem tlook_no (p A : Option Addr) (cp : Nat) (xs : List Int) (n : Int) (on : Bool) (c i : Int) (hit : Bool) (j : Int) (hj : IntKind.i64.wrap (i + 1) = j) (w : World) (h : Memo w p A cp xs) (hq : wordAt xs (wc n i) ≠ (c + 1) % 4294967296) :
    Calls Tryz.prog 283 #[.agg #[.pointer p, .int .i64 n, .bool on, .int .i64 c, .int .i64 i, .bool hit]] w (Turned p A cp ⟨true, c, j, false⟩ (doVal xs 1 (wc n i) 0 0) (there xs (wc n i)) xs w) := by
  have := tlook_any p A cp xs n on c i hit j hj w h
  rwa [if_neg hq] at this
end Go.Proofs.YtigdbokfapedcaaGreat
/- turn.do, over any step of a turn. -/
set_option linter.unusedVariables false
set_option linter.unusedSimpArgs false
namespace Go.Proofs.YtigdbokfapedcaaGreat
open Go.RowKit

/-- What a step of a wake-up leaves. -/
def Woke (p A : Option Addr) (cp : Nat) (nx : WkV) (acc : Value) (ys : List Int) (w : World) (e : Ending) (w' : World) : Prop :=
  e = .returned (.tuple #[nx.v, acc]) ∧ Only (At A) w w' ∧ Memo w' p A cp ys

/-- A call of this function enters it: no function from outside. -/
def Enters (f : FuncId) : Prop := ∀ (args : Array Value) (w : World), (callFunc f args).run Tryz.prog w = .ok (.enter f args) w
theorem enters_g : Enters 282 := fun args w => by
  simp [callFunc, go_sem, Tryz.func282, Tryz.f282]
theorem enters_l : Enters 283 := fun args w => by
  simp [callFunc, go_sem, Tryz.func283, Tryz.f283]

set_option maxHeartbeats 400000 in
theorem tdo_not (FF : FuncId) (hcf : Enters FF) (p A : Option Addr) (cp : Nat) (xs ys : List Int) (n : Int) (on : Bool) (c i : Int) (hit : Bool) (j : Int) (b : Bool) (ka ca xa ya oa : Int) (w : World) (h : Memo w p A cp xs)
    (hc : ∀ w, Memo w p A cp xs → Calls Tryz.prog FF #[.agg #[.pointer p, .int .i64 n, .bool on, .int .i64 c, .int .i64 i, .bool hit]] w (Turned p A cp ⟨true, c, j, b⟩ (.agg #[.int .i64 ka, .int .i64 ca, .int .u32 xa, .int .u32 ya, .int .u32 oa]) false ys w)) :
    Calls Tryz.prog 281 #[.agg #[.pointer p, .int .i64 n, .bool on, .int .i64 c, .int .i64 i, .bool hit], .func (.func FF) #[.agg #[.pointer p, .int .i64 n, .bool on, .int .i64 c, .int .i64 i, .bool hit]] #[]] w (Woke p A cp wk0 (.agg #[.int .i64 ka, .int .i64 ca, .int .u32 xa, .int .u32 ya, .int .u32 oa]) ys w) := by
  have HF0 := Lib.hid (TF.start #[.pointer p, .int .i64 n, .bool on, .int .i64 c, .int .i64 i, .bool hit] h)
  have HC := Lib.hid hc
  clear h hc
  unfold Enters at hcf
  go_enter Tryz.func281, Tryz.ntmps281
  go_wp2_with fail
  generalize ((w.alloc (.cells #[.pointer p, .int .i64 n, .bool on, .int .i64 c, .int .i64 i, .bool hit] 221)).alloc (.cells #[.bool false, .int .i64 0, .int .i64 0, .bool false] 82)).alloc (.cells #[.int .i64 0, .int .i64 0, .int .u32 0, .int .u32 0, .int .u32 0] 63) = w1 at *
  generalize w.heap.size = B at *
  clear hcf
  refine (HC.out _ HF0.out.memo).mono ?_
  intro e w2 hF
  obtain ⟨rfl, hO, hM⟩ := hF
  dsimp only [WkV.v]
  have HF1 := Lib.hid (HF0.out.call hO hM)
  clear hO hM HF0 HC
  have HF2 := Lib.hid (HF1.out.keep (((Only.refl Nil w2).alloc (.cells #[.bool true, .int .i64 c, .int .i64 j, .bool b] 82)).alloc (.cells #[.int .i64 ka, .int .i64 ca, .int .u32 xa, .int .u32 ya, .int .u32 oa] 63)))
  have HK := Lib.hid ((Row.new w2 82 #[.bool true, .int .i64 c, .int .i64 j, .bool b]).alloc (.cells #[.int .i64 ka, .int .i64 ca, .int .u32 xa, .int .u32 ya, .int .u32 oa] 63))
  have HN := Lib.hid (Row.new2 w2 (.cells #[.bool true, .int .i64 c, .int .i64 j, .bool b] 82) 63 #[.int .i64 ka, .int .i64 ca, .int .u32 xa, .int .u32 ya, .int .u32 oa])
  have HG := Lib.hid (show B + 1 + 1 < w2.heap.size from HF1.out.ra.lt)
  clear HF1
  go_wp2_with fail
  generalize (w2.alloc (.cells #[.bool true, .int .i64 c, .int .i64 j, .bool b] 82)).alloc (.cells #[.int .i64 ka, .int .i64 ca, .int .u32 xa, .int .u32 ya, .int .u32 oa] 63) = w3 at *
  generalize w2.heap.size = g at *
  refine wp_region_held_drew (S := fun w' => (Six w' B (.pointer p) (.int .i64 n) (.bool on) (.int .i64 c) (.int .i64 i) (.bool hit)) ∧ Four w' g (.bool true) (.int .i64 c) (.int .i64 j) (.bool b)) (by kernel_rfl) ⟨HF2.out.rt.six, HK.out.four⟩ (fun hHeld => ?_)
  have HF3 := Lib.hid (HF2.out.keep (Only.refl Nil w3).drew)
  have HK3 := Lib.hid HK.out.drew
  have HN3 := Lib.hid HN.out.drew
  clear HF2 HK HN
  generalize w3.drew = w4 at *
  refine zk 0 rfl ?_
  refine zk 1 rfl ?_
  refine zk 2 rfl ?_
  refine mps 3 rfl ?_
  try simp only [Act.put, k1, k2, k3]
  refine mps 4 rfl ?_
  try simp only [Act.put, k1, k2, k3]
  refine mps 5 rfl ?_
  try simp only [Act.put, k1, k2, k3]
  refine mps 6 rfl ?_
  try simp only [Act.put, k1, k2, k3]
  refine zk 7 rfl ?_
  refine wpAnyH_done (by kernel_rfl) ?_ _
  clear hHeld
  go_wp2_with fail
  refine wp_region_held_drew (S := fun w' => (Four w' g (.bool true) (.int .i64 c) (.int .i64 j) (.bool b)) ∧ Five w' (g + 1) (.int .i64 ka) (.int .i64 ca) (.int .u32 xa) (.int .u32 ya) (.int .u32 oa)) (by kernel_rfl) ⟨HK3.out.four, HN3.out.five⟩ (fun hHeld => ?_)
  have HF6 := Lib.hid (HF3.out.keep (Only.refl Nil w4).drew)
  have HK6 := Lib.hid HK3.out.drew
  have HN6 := Lib.hid HN3.out.drew
  clear HF3 HK3 HN3
  generalize w4.drew = w6 at *
  refine zk 0 rfl ?_
  refine zk 1 rfl ?_
  have n0 : w6.cell? ⟨B + 1, 0, none⟩ = some (.bool false) := HF6.out.rn.cell_ (i := 0) rfl
  have n1 : w6.cell? ⟨B + 1, 1, none⟩ = some (.int .i64 0) := HF6.out.rn.cell_ (i := 1) rfl
  have n2 : w6.cell? ⟨B + 1, 2, none⟩ = some (.int .i64 0) := HF6.out.rn.cell_ (i := 2) rfl
  have n3 : w6.cell? ⟨B + 1, 3, none⟩ = some (.bool false) := HF6.out.rn.cell_ (i := 3) rfl
  have m0 : w6.frozen? ⟨B + 1, 0, none⟩ = false := HF6.out.rn.frozen 0
  have m1 : w6.frozen? ⟨B + 1, 1, none⟩ = false := HF6.out.rn.frozen 1
  have m2 : w6.frozen? ⟨B + 1, 2, none⟩ = false := HF6.out.rn.frozen 2
  have m3 : w6.frozen? ⟨B + 1, 3, none⟩ = false := HF6.out.rn.frozen 3
  refine mcl 2 rfl (by kernel_rfl) (by rfl) (fun K hK => ?_)
  go_simp
  have ho := four_only (Only.refl (· = B + 1) w6) (g := B + 1) (.inr rfl) (.bool false) (.int .i64 0) (.int .i64 0) (.bool false)
  have HF7 := Lib.hid (HF6.out.setN (.bool false) (.int .i64 0) (.int .i64 0) (.bool false))
  have HK7 := Lib.hid (HK6.out.only ho (by have := HG.out; show ¬ g = B + 1; omega))
  have HN7 := Lib.hid (HN6.out.only ho (by have := HG.out; show ¬ g + 1 = B + 1; omega))
  clear ho
  refine hK.out _ _ ⟨HK7.out.four, HN7.out.five⟩ (fun hHeld2 => ?_)
  clear hK K hHeld n0 n1 n2 n3 m0 m1 m2 m3 HF6 HK6 HN6
  generalize (((w6.setCell ⟨B + 1, 0, none⟩ (.bool false)).setCell ⟨B + 1, 1, none⟩ (.int .i64 0)).setCell ⟨B + 1, 2, none⟩ (.int .i64 0)).setCell ⟨B + 1, 3, none⟩ (.bool false) = w7 at *
  have r0 : w7.cell? ⟨B + 1 + 1, 0, none⟩ = some (.int .i64 0) := HF7.out.ra.cell_ (i := 0) rfl
  have r1 : w7.cell? ⟨B + 1 + 1, 1, none⟩ = some (.int .i64 0) := HF7.out.ra.cell_ (i := 1) rfl
  have r2 : w7.cell? ⟨B + 1 + 1, 2, none⟩ = some (.int .u32 0) := HF7.out.ra.cell_ (i := 2) rfl
  have r3 : w7.cell? ⟨B + 1 + 1, 3, none⟩ = some (.int .u32 0) := HF7.out.ra.cell_ (i := 3) rfl
  have r4 : w7.cell? ⟨B + 1 + 1, 4, none⟩ = some (.int .u32 0) := HF7.out.ra.cell_ (i := 4) rfl
  have q0 : w7.frozen? ⟨B + 1 + 1, 0, none⟩ = false := HF7.out.ra.frozen 0
  have q1 : w7.frozen? ⟨B + 1 + 1, 1, none⟩ = false := HF7.out.ra.frozen 1
  have q2 : w7.frozen? ⟨B + 1 + 1, 2, none⟩ = false := HF7.out.ra.frozen 2
  have q3 : w7.frozen? ⟨B + 1 + 1, 3, none⟩ = false := HF7.out.ra.frozen 3
  have q4 : w7.frozen? ⟨B + 1 + 1, 4, none⟩ = false := HF7.out.ra.frozen 4
  refine mcl 3 rfl (by kernel_rfl) (by rfl) (fun K hK => ?_)
  go_simp
  have ho := five_only (Only.refl (· = B + 1 + 1) w7) (g := B + 1 + 1) (.inr rfl) (.int .i64 ka) (.int .i64 ca) (.int .u32 xa) (.int .u32 ya) (.int .u32 oa)
  have HF8 := Lib.hid (HF7.out.setA (.int .i64 ka) (.int .i64 ca) (.int .u32 xa) (.int .u32 ya) (.int .u32 oa))
  have HK8 := Lib.hid (HK7.out.only ho (by have := HG.out; show ¬ g = B + 1 + 1; omega))
  have HN8 := Lib.hid (HN7.out.only ho (by have := HG.out; show ¬ g + 1 = B + 1 + 1; omega))
  clear ho
  refine hK.out _ _ ⟨HK8.out.four, HN8.out.five⟩ (fun hHeld3 => ?_)
  clear hK K hHeld2 r0 r1 r2 r3 r4 q0 q1 q2 q3 q4 HF7 HK7 HN7
  generalize (((((w7.setCell ⟨B + 1 + 1, 0, none⟩ (.int .i64 ka)).setCell ⟨B + 1 + 1, 1, none⟩ (.int .i64 ca)).setCell ⟨B + 1 + 1, 2, none⟩ (.int .u32 xa)).setCell ⟨B + 1 + 1, 3, none⟩ (.int .u32 ya)).setCell ⟨B + 1 + 1, 4, none⟩ (.int .u32 oa)) = w8 at *
  refine wpAnyH_done (by kernel_rfl) ?_ _
  clear hHeld3
  go_wp2
  exact post_two (P := Tryz.prog) Tryz.results281 (by rfl) HF8.out.rn Tryz.underlying82 rfl (by kernel_rfl) (by rfl) HF8.out.ra Tryz.underlying63 rfl (by kernel_rfl) rfl ⟨rfl, HF8.out.only, HF8.out.memo⟩
set_option maxHeartbeats 400000 in
theorem tdo_end (FF : FuncId) (hcf : Enters FF) (p A : Option Addr) (cp : Nat) (xs ys : List Int) (n : Int) (on : Bool) (c i : Int) (hit : Bool) (ka ca xa ya oa : Int) (w : World) (h : Memo w p A cp xs)
    (hc : ∀ w, Memo w p A cp xs → Calls Tryz.prog FF #[.agg #[.pointer p, .int .i64 n, .bool on, .int .i64 c, .int .i64 i, .bool hit]] w (Turned p A cp ⟨true, c, n, false⟩ (.agg #[.int .i64 ka, .int .i64 ca, .int .u32 xa, .int .u32 ya, .int .u32 oa]) true ys w)) :
    Calls Tryz.prog 281 #[.agg #[.pointer p, .int .i64 n, .bool on, .int .i64 c, .int .i64 i, .bool hit], .func (.func FF) #[.agg #[.pointer p, .int .i64 n, .bool on, .int .i64 c, .int .i64 i, .bool hit]] #[]] w (Woke p A cp wk0 (.agg #[.int .i64 ka, .int .i64 ca, .int .u32 xa, .int .u32 ya, .int .u32 oa]) ys w) := by
  have HF0 := Lib.hid (TF.start #[.pointer p, .int .i64 n, .bool on, .int .i64 c, .int .i64 i, .bool hit] h)
  have HC := Lib.hid hc
  clear h hc
  unfold Enters at hcf
  go_enter Tryz.func281, Tryz.ntmps281
  go_wp2_with fail
  generalize ((w.alloc (.cells #[.pointer p, .int .i64 n, .bool on, .int .i64 c, .int .i64 i, .bool hit] 221)).alloc (.cells #[.bool false, .int .i64 0, .int .i64 0, .bool false] 82)).alloc (.cells #[.int .i64 0, .int .i64 0, .int .u32 0, .int .u32 0, .int .u32 0] 63) = w1 at *
  generalize w.heap.size = B at *
  clear hcf
  refine (HC.out _ HF0.out.memo).mono ?_
  intro e w2 hF
  obtain ⟨rfl, hO, hM⟩ := hF
  dsimp only [WkV.v]
  have HF1 := Lib.hid (HF0.out.call hO hM)
  clear hO hM HF0 HC
  have HF2 := Lib.hid (HF1.out.keep (((Only.refl Nil w2).alloc (.cells #[.bool true, .int .i64 c, .int .i64 n, .bool false] 82)).alloc (.cells #[.int .i64 ka, .int .i64 ca, .int .u32 xa, .int .u32 ya, .int .u32 oa] 63)))
  have HK := Lib.hid ((Row.new w2 82 #[.bool true, .int .i64 c, .int .i64 n, .bool false]).alloc (.cells #[.int .i64 ka, .int .i64 ca, .int .u32 xa, .int .u32 ya, .int .u32 oa] 63))
  have HN := Lib.hid (Row.new2 w2 (.cells #[.bool true, .int .i64 c, .int .i64 n, .bool false] 82) 63 #[.int .i64 ka, .int .i64 ca, .int .u32 xa, .int .u32 ya, .int .u32 oa])
  have HG := Lib.hid (show B + 1 + 1 < w2.heap.size from HF1.out.ra.lt)
  clear HF1
  go_wp2_with fail
  generalize (w2.alloc (.cells #[.bool true, .int .i64 c, .int .i64 n, .bool false] 82)).alloc (.cells #[.int .i64 ka, .int .i64 ca, .int .u32 xa, .int .u32 ya, .int .u32 oa] 63) = w3 at *
  generalize w2.heap.size = g at *
  refine wp_region_held_drew (S := fun w' => (Six w' B (.pointer p) (.int .i64 n) (.bool on) (.int .i64 c) (.int .i64 i) (.bool hit)) ∧ Four w' g (.bool true) (.int .i64 c) (.int .i64 n) (.bool false)) (by kernel_rfl) ⟨HF2.out.rt.six, HK.out.four⟩ (fun hHeld => ?_)
  have HF3 := Lib.hid (HF2.out.keep (Only.refl Nil w3).drew)
  have HK3 := Lib.hid HK.out.drew
  have HN3 := Lib.hid HN.out.drew
  clear HF2 HK HN
  generalize w3.drew = w4 at *
  refine zk 0 rfl ?_
  refine zk 1 rfl ?_
  refine zk 2 rfl ?_
  refine zk 3 rfl ?_
  refine zk 4 rfl ?_
  refine mcl 5 rfl (by kernel_rfl) (by rfl) (fun K hK => ?_)
  go_simp
  refine (end_any p n on c i hit _).mono ?_
  rintro e w5 ⟨rfl, hO⟩
  have HF4 := Lib.hid (HF3.out.keep hO)
  have HK4 := Lib.hid (HK3.out.only hO id)
  have HN4 := Lib.hid (HN3.out.only hO id)
  refine hK.out _ _ ⟨HF4.out.rt.six, HK4.out.four⟩ (fun hHeld2 => ?_)
  clear hK K hHeld hO HF3 HK3 HN3
  have HF3 := HF4
  have HK3 := HK4
  have HN3 := HN4
  have hHeld := hHeld2
  clear HF4 HK4 HN4 hHeld2
  refine zk 6 rfl ?_
  refine zk 7 rfl ?_
  refine wpAnyH_done (by kernel_rfl) ?_ _
  clear hHeld
  go_wp2_with fail
  refine wp_region_held_drew (S := fun w' => (Four w' g (.bool true) (.int .i64 c) (.int .i64 n) (.bool false)) ∧ Five w' (g + 1) (.int .i64 ka) (.int .i64 ca) (.int .u32 xa) (.int .u32 ya) (.int .u32 oa)) (by kernel_rfl) ⟨HK3.out.four, HN3.out.five⟩ (fun hHeld => ?_)
  have HF6 := Lib.hid (HF3.out.keep (Only.refl Nil w5).drew)
  have HK6 := Lib.hid HK3.out.drew
  have HN6 := Lib.hid HN3.out.drew
  clear HF3 HK3 HN3
  generalize w5.drew = w6 at *
  refine zk 0 rfl ?_
  refine zk 1 rfl ?_
  have n0 : w6.cell? ⟨B + 1, 0, none⟩ = some (.bool false) := HF6.out.rn.cell_ (i := 0) rfl
  have n1 : w6.cell? ⟨B + 1, 1, none⟩ = some (.int .i64 0) := HF6.out.rn.cell_ (i := 1) rfl
  have n2 : w6.cell? ⟨B + 1, 2, none⟩ = some (.int .i64 0) := HF6.out.rn.cell_ (i := 2) rfl
  have n3 : w6.cell? ⟨B + 1, 3, none⟩ = some (.bool false) := HF6.out.rn.cell_ (i := 3) rfl
  have m0 : w6.frozen? ⟨B + 1, 0, none⟩ = false := HF6.out.rn.frozen 0
  have m1 : w6.frozen? ⟨B + 1, 1, none⟩ = false := HF6.out.rn.frozen 1
  have m2 : w6.frozen? ⟨B + 1, 2, none⟩ = false := HF6.out.rn.frozen 2
  have m3 : w6.frozen? ⟨B + 1, 3, none⟩ = false := HF6.out.rn.frozen 3
  refine mcl 2 rfl (by kernel_rfl) (by rfl) (fun K hK => ?_)
  go_simp
  have ho := four_only (Only.refl (· = B + 1) w6) (g := B + 1) (.inr rfl) (.bool false) (.int .i64 0) (.int .i64 0) (.bool false)
  have HF7 := Lib.hid (HF6.out.setN (.bool false) (.int .i64 0) (.int .i64 0) (.bool false))
  have HK7 := Lib.hid (HK6.out.only ho (by have := HG.out; show ¬ g = B + 1; omega))
  have HN7 := Lib.hid (HN6.out.only ho (by have := HG.out; show ¬ g + 1 = B + 1; omega))
  clear ho
  refine hK.out _ _ ⟨HK7.out.four, HN7.out.five⟩ (fun hHeld2 => ?_)
  clear hK K hHeld n0 n1 n2 n3 m0 m1 m2 m3 HF6 HK6 HN6
  generalize (((w6.setCell ⟨B + 1, 0, none⟩ (.bool false)).setCell ⟨B + 1, 1, none⟩ (.int .i64 0)).setCell ⟨B + 1, 2, none⟩ (.int .i64 0)).setCell ⟨B + 1, 3, none⟩ (.bool false) = w7 at *
  have r0 : w7.cell? ⟨B + 1 + 1, 0, none⟩ = some (.int .i64 0) := HF7.out.ra.cell_ (i := 0) rfl
  have r1 : w7.cell? ⟨B + 1 + 1, 1, none⟩ = some (.int .i64 0) := HF7.out.ra.cell_ (i := 1) rfl
  have r2 : w7.cell? ⟨B + 1 + 1, 2, none⟩ = some (.int .u32 0) := HF7.out.ra.cell_ (i := 2) rfl
  have r3 : w7.cell? ⟨B + 1 + 1, 3, none⟩ = some (.int .u32 0) := HF7.out.ra.cell_ (i := 3) rfl
  have r4 : w7.cell? ⟨B + 1 + 1, 4, none⟩ = some (.int .u32 0) := HF7.out.ra.cell_ (i := 4) rfl
  have q0 : w7.frozen? ⟨B + 1 + 1, 0, none⟩ = false := HF7.out.ra.frozen 0
  have q1 : w7.frozen? ⟨B + 1 + 1, 1, none⟩ = false := HF7.out.ra.frozen 1
  have q2 : w7.frozen? ⟨B + 1 + 1, 2, none⟩ = false := HF7.out.ra.frozen 2
  have q3 : w7.frozen? ⟨B + 1 + 1, 3, none⟩ = false := HF7.out.ra.frozen 3
  have q4 : w7.frozen? ⟨B + 1 + 1, 4, none⟩ = false := HF7.out.ra.frozen 4
  refine mcl 3 rfl (by kernel_rfl) (by rfl) (fun K hK => ?_)
  go_simp
  have ho := five_only (Only.refl (· = B + 1 + 1) w7) (g := B + 1 + 1) (.inr rfl) (.int .i64 ka) (.int .i64 ca) (.int .u32 xa) (.int .u32 ya) (.int .u32 oa)
  have HF8 := Lib.hid (HF7.out.setA (.int .i64 ka) (.int .i64 ca) (.int .u32 xa) (.int .u32 ya) (.int .u32 oa))
  have HK8 := Lib.hid (HK7.out.only ho (by have := HG.out; show ¬ g = B + 1 + 1; omega))
  have HN8 := Lib.hid (HN7.out.only ho (by have := HG.out; show ¬ g + 1 = B + 1 + 1; omega))
  clear ho
  refine hK.out _ _ ⟨HK8.out.four, HN8.out.five⟩ (fun hHeld3 => ?_)
  clear hK K hHeld2 r0 r1 r2 r3 r4 q0 q1 q2 q3 q4 HF7 HK7 HN7
  generalize (((((w7.setCell ⟨B + 1 + 1, 0, none⟩ (.int .i64 ka)).setCell ⟨B + 1 + 1, 1, none⟩ (.int .i64 ca)).setCell ⟨B + 1 + 1, 2, none⟩ (.int .u32 xa)).setCell ⟨B + 1 + 1, 3, none⟩ (.int .u32 ya)).setCell ⟨B + 1 + 1, 4, none⟩ (.int .u32 oa)) = w8 at *
  refine wpAnyH_done (by kernel_rfl) ?_ _
  clear hHeld3
  go_wp2
  exact post_two (P := Tryz.prog) Tryz.results281 (by rfl) HF8.out.rn Tryz.underlying82 rfl (by kernel_rfl) (by rfl) HF8.out.ra Tryz.underlying63 rfl (by kernel_rfl) rfl ⟨rfl, HF8.out.only, HF8.out.memo⟩
set_option maxHeartbeats 400000 in
theorem tdo_on (FF : FuncId) (hcf : Enters FF) (p A : Option Addr) (cp : Nat) (xs ys : List Int) (n : Int) (on : Bool) (c i : Int) (hit : Bool) (j : Int) (b : Bool) (ka ca xa ya oa : Int) (w : World) (h : Memo w p A cp xs) (hq : (decide (j = n) && !b) = false)
    (hc : ∀ w, Memo w p A cp xs → Calls Tryz.prog FF #[.agg #[.pointer p, .int .i64 n, .bool on, .int .i64 c, .int .i64 i, .bool hit]] w (Turned p A cp ⟨true, c, j, b⟩ (.agg #[.int .i64 ka, .int .i64 ca, .int .u32 xa, .int .u32 ya, .int .u32 oa]) true ys w)) :
    Calls Tryz.prog 281 #[.agg #[.pointer p, .int .i64 n, .bool on, .int .i64 c, .int .i64 i, .bool hit], .func (.func FF) #[.agg #[.pointer p, .int .i64 n, .bool on, .int .i64 c, .int .i64 i, .bool hit]] #[]] w (Woke p A cp ⟨true, c, j, b⟩ (.agg #[.int .i64 ka, .int .i64 ca, .int .u32 xa, .int .u32 ya, .int .u32 oa]) ys w) := by
  have hq2 : j = n → b = true := fun e => by cases b <;> simp_all
  have HQ := Lib.hid hq2
  clear hq hq2
  have HF0 := Lib.hid (TF.start #[.pointer p, .int .i64 n, .bool on, .int .i64 c, .int .i64 i, .bool hit] h)
  have HC := Lib.hid hc
  clear h hc
  unfold Enters at hcf
  go_enter Tryz.func281, Tryz.ntmps281
  go_wp2_with fail
  generalize ((w.alloc (.cells #[.pointer p, .int .i64 n, .bool on, .int .i64 c, .int .i64 i, .bool hit] 221)).alloc (.cells #[.bool false, .int .i64 0, .int .i64 0, .bool false] 82)).alloc (.cells #[.int .i64 0, .int .i64 0, .int .u32 0, .int .u32 0, .int .u32 0] 63) = w1 at *
  generalize w.heap.size = B at *
  clear hcf
  refine (HC.out _ HF0.out.memo).mono ?_
  intro e w2 hF
  obtain ⟨rfl, hO, hM⟩ := hF
  dsimp only [WkV.v]
  have HF1 := Lib.hid (HF0.out.call hO hM)
  clear hO hM HF0 HC
  have HF2 := Lib.hid (HF1.out.keep (((Only.refl Nil w2).alloc (.cells #[.bool true, .int .i64 c, .int .i64 j, .bool b] 82)).alloc (.cells #[.int .i64 ka, .int .i64 ca, .int .u32 xa, .int .u32 ya, .int .u32 oa] 63)))
  have HK := Lib.hid ((Row.new w2 82 #[.bool true, .int .i64 c, .int .i64 j, .bool b]).alloc (.cells #[.int .i64 ka, .int .i64 ca, .int .u32 xa, .int .u32 ya, .int .u32 oa] 63))
  have HN := Lib.hid (Row.new2 w2 (.cells #[.bool true, .int .i64 c, .int .i64 j, .bool b] 82) 63 #[.int .i64 ka, .int .i64 ca, .int .u32 xa, .int .u32 ya, .int .u32 oa])
  have HG := Lib.hid (show B + 1 + 1 < w2.heap.size from HF1.out.ra.lt)
  clear HF1
  go_wp2_with fail
  generalize (w2.alloc (.cells #[.bool true, .int .i64 c, .int .i64 j, .bool b] 82)).alloc (.cells #[.int .i64 ka, .int .i64 ca, .int .u32 xa, .int .u32 ya, .int .u32 oa] 63) = w3 at *
  generalize w2.heap.size = g at *
  refine wp_region_held_drew (S := fun w' => (Six w' B (.pointer p) (.int .i64 n) (.bool on) (.int .i64 c) (.int .i64 i) (.bool hit)) ∧ Four w' g (.bool true) (.int .i64 c) (.int .i64 j) (.bool b)) (by kernel_rfl) ⟨HF2.out.rt.six, HK.out.four⟩ (fun hHeld => ?_)
  have HF3 := Lib.hid (HF2.out.keep (Only.refl Nil w3).drew)
  have HK3 := Lib.hid HK.out.drew
  have HN3 := Lib.hid HN.out.drew
  clear HF2 HK HN
  generalize w3.drew = w4 at *
  refine zk 0 rfl ?_
  refine zk 1 rfl ?_
  refine zk 2 rfl ?_
  refine zk 3 rfl ?_
  refine zk 4 rfl ?_
  refine mcl 5 rfl (by kernel_rfl) (by rfl) (fun K hK => ?_)
  go_simp
  refine (end_any p n on c i hit _).mono ?_
  rintro e w5 ⟨rfl, hO⟩
  have HF4 := Lib.hid (HF3.out.keep hO)
  have HK4 := Lib.hid (HK3.out.only hO id)
  have HN4 := Lib.hid (HN3.out.only hO id)
  refine hK.out _ _ ⟨HF4.out.rt.six, HK4.out.four⟩ (fun hHeld2 => ?_)
  clear hK K hHeld hO HF3 HK3 HN3
  have HF3 := HF4
  have HK3 := HK4
  have HN3 := HN4
  have hHeld := hHeld2
  clear HF4 HK4 HN4 hHeld2
  refine mtk 6 rfl (.bool false) (fun w hSw => ?_) ?_
  · go_split_ands
    go_simp
    by_cases e1 : j = n
    · have e2 := HQ.out e1
      simp [e1, e2]
    · simp [e1]
  refine zk 7 rfl ?_
  refine wpAnyH_done (by kernel_rfl) ?_ _
  clear hHeld
  go_wp2_with fail
  refine wp_region_held_drew (S := fun w' => (Four w' g (.bool true) (.int .i64 c) (.int .i64 j) (.bool b)) ∧ Five w' (g + 1) (.int .i64 ka) (.int .i64 ca) (.int .u32 xa) (.int .u32 ya) (.int .u32 oa)) (by kernel_rfl) ⟨HK3.out.four, HN3.out.five⟩ (fun hHeld => ?_)
  have HF6 := Lib.hid (HF3.out.keep (Only.refl Nil w5).drew)
  have HK6 := Lib.hid HK3.out.drew
  have HN6 := Lib.hid HN3.out.drew
  clear HF3 HK3 HN3
  generalize w5.drew = w6 at *
  refine zk 0 rfl ?_
  refine zk 1 rfl ?_
  have n0 : w6.cell? ⟨B + 1, 0, none⟩ = some (.bool false) := HF6.out.rn.cell_ (i := 0) rfl
  have n1 : w6.cell? ⟨B + 1, 1, none⟩ = some (.int .i64 0) := HF6.out.rn.cell_ (i := 1) rfl
  have n2 : w6.cell? ⟨B + 1, 2, none⟩ = some (.int .i64 0) := HF6.out.rn.cell_ (i := 2) rfl
  have n3 : w6.cell? ⟨B + 1, 3, none⟩ = some (.bool false) := HF6.out.rn.cell_ (i := 3) rfl
  have m0 : w6.frozen? ⟨B + 1, 0, none⟩ = false := HF6.out.rn.frozen 0
  have m1 : w6.frozen? ⟨B + 1, 1, none⟩ = false := HF6.out.rn.frozen 1
  have m2 : w6.frozen? ⟨B + 1, 2, none⟩ = false := HF6.out.rn.frozen 2
  have m3 : w6.frozen? ⟨B + 1, 3, none⟩ = false := HF6.out.rn.frozen 3
  refine mcl 2 rfl (by kernel_rfl) (by rfl) (fun K hK => ?_)
  go_simp
  have ho := four_only (Only.refl (· = B + 1) w6) (g := B + 1) (.inr rfl) (.bool true) (.int .i64 c) (.int .i64 j) (.bool b)
  have HF7 := Lib.hid (HF6.out.setN (.bool true) (.int .i64 c) (.int .i64 j) (.bool b))
  have HK7 := Lib.hid (HK6.out.only ho (by have := HG.out; show ¬ g = B + 1; omega))
  have HN7 := Lib.hid (HN6.out.only ho (by have := HG.out; show ¬ g + 1 = B + 1; omega))
  clear ho
  refine hK.out _ _ ⟨HK7.out.four, HN7.out.five⟩ (fun hHeld2 => ?_)
  clear hK K hHeld n0 n1 n2 n3 m0 m1 m2 m3 HF6 HK6 HN6
  generalize (((w6.setCell ⟨B + 1, 0, none⟩ (.bool true)).setCell ⟨B + 1, 1, none⟩ (.int .i64 c)).setCell ⟨B + 1, 2, none⟩ (.int .i64 j)).setCell ⟨B + 1, 3, none⟩ (.bool b) = w7 at *
  have r0 : w7.cell? ⟨B + 1 + 1, 0, none⟩ = some (.int .i64 0) := HF7.out.ra.cell_ (i := 0) rfl
  have r1 : w7.cell? ⟨B + 1 + 1, 1, none⟩ = some (.int .i64 0) := HF7.out.ra.cell_ (i := 1) rfl
  have r2 : w7.cell? ⟨B + 1 + 1, 2, none⟩ = some (.int .u32 0) := HF7.out.ra.cell_ (i := 2) rfl
  have r3 : w7.cell? ⟨B + 1 + 1, 3, none⟩ = some (.int .u32 0) := HF7.out.ra.cell_ (i := 3) rfl
  have r4 : w7.cell? ⟨B + 1 + 1, 4, none⟩ = some (.int .u32 0) := HF7.out.ra.cell_ (i := 4) rfl
  have q0 : w7.frozen? ⟨B + 1 + 1, 0, none⟩ = false := HF7.out.ra.frozen 0
  have q1 : w7.frozen? ⟨B + 1 + 1, 1, none⟩ = false := HF7.out.ra.frozen 1
  have q2 : w7.frozen? ⟨B + 1 + 1, 2, none⟩ = false := HF7.out.ra.frozen 2
  have q3 : w7.frozen? ⟨B + 1 + 1, 3, none⟩ = false := HF7.out.ra.frozen 3
  have q4 : w7.frozen? ⟨B + 1 + 1, 4, none⟩ = false := HF7.out.ra.frozen 4
  refine mcl 3 rfl (by kernel_rfl) (by rfl) (fun K hK => ?_)
  go_simp
  have ho := five_only (Only.refl (· = B + 1 + 1) w7) (g := B + 1 + 1) (.inr rfl) (.int .i64 ka) (.int .i64 ca) (.int .u32 xa) (.int .u32 ya) (.int .u32 oa)
  have HF8 := Lib.hid (HF7.out.setA (.int .i64 ka) (.int .i64 ca) (.int .u32 xa) (.int .u32 ya) (.int .u32 oa))
  have HK8 := Lib.hid (HK7.out.only ho (by have := HG.out; show ¬ g = B + 1 + 1; omega))
  have HN8 := Lib.hid (HN7.out.only ho (by have := HG.out; show ¬ g + 1 = B + 1 + 1; omega))
  clear ho
  refine hK.out _ _ ⟨HK8.out.four, HN8.out.five⟩ (fun hHeld3 => ?_)
  clear hK K hHeld2 r0 r1 r2 r3 r4 q0 q1 q2 q3 q4 HF7 HK7 HN7
  generalize (((((w7.setCell ⟨B + 1 + 1, 0, none⟩ (.int .i64 ka)).setCell ⟨B + 1 + 1, 1, none⟩ (.int .i64 ca)).setCell ⟨B + 1 + 1, 2, none⟩ (.int .u32 xa)).setCell ⟨B + 1 + 1, 3, none⟩ (.int .u32 ya)).setCell ⟨B + 1 + 1, 4, none⟩ (.int .u32 oa)) = w8 at *
  refine wpAnyH_done (by kernel_rfl) ?_ _
  clear hHeld3
  go_wp2
  exact post_two (P := Tryz.prog) Tryz.results281 (by rfl) HF8.out.rn Tryz.underlying82 rfl (by kernel_rfl) (by rfl) HF8.out.ra Tryz.underlying63 rfl (by kernel_rfl) rfl ⟨rfl, HF8.out.only, HF8.out.memo⟩
end Go.Proofs.YtigdbokfapedcaaGreat
