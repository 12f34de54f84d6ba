import Derived.Test.YtaeninikaalkjaaGreatH7
import Derived.Test.YtaeninikaalkjaaGreatH8
import Derived.Test.YtaeninikaalkjaaGreatH5
set_option linter.unusedVariables false
set_option linter.unusedSimpArgs false
namespace Go.Proofs.YtaeninikaalkjaaGreat
open Go.RowKit
def Woke (p A : Option Addr) (cp : Nat) (nx : WkV) (acc : Value) (ys : List Int) (w : World) (e : Ending) (w' : World) : Prop :=
  e = .returned (.tuple #[nx.v, acc]) ∧ Only (At A) w w' ∧ Memo w' p A cp ys
def Enters (f : FuncId) : Prop := ∀ (args : Array Value) (w : World), (callFunc f args).run Tryz.prog w = .ok (.enter f args) w
theorem enters_g : Enters 84 := fun args w => by
  simp [callFunc, go_sem, Tryz.func84, Tryz.f84]
theorem enters_l : Enters 85 := fun args w => by
  simp [callFunc, go_sem, Tryz.func85, Tryz.f85]
set_option maxHeartbeats 400000 in
theorem tdo_not (FF : FuncId) (hcf : Enters FF) (p A : Option Addr) (cp : Nat) (xs ys : List Int) (n : Int) (on : Bool) (c i : Int) (hit : Bool) (j : Int) (b : Bool) (ka ca xa ya oa : Int) (w : World) (h : Memo w p A cp xs)
    (hc : ∀ w, Memo w p A cp xs → Calls Tryz.prog FF #[.agg #[.pointer p, .int .i64 n, .bool on, .int .i64 c, .int .i64 i, .bool hit]] w (Turned p A cp ⟨true, c, j, b⟩ (.agg #[.int .i64 ka, .int .i64 ca, .int .u32 xa, .int .u32 ya, .int .u32 oa]) false ys w)) :
    Calls Tryz.prog 83 #[.agg #[.pointer p, .int .i64 n, .bool on, .int .i64 c, .int .i64 i, .bool hit], .func (.func FF) #[.agg #[.pointer p, .int .i64 n, .bool on, .int .i64 c, .int .i64 i, .bool hit]] #[]] w (Woke p A cp wk0 (.agg #[.int .i64 ka, .int .i64 ca, .int .u32 xa, .int .u32 ya, .int .u32 oa]) ys w) := by
  have HF0 := Lib.hid (TF.start #[.pointer p, .int .i64 n, .bool on, .int .i64 c, .int .i64 i, .bool hit] h)
  have HC := Lib.hid hc
  clear h hc
  unfold Enters at hcf
  go_enter Tryz.func83, Tryz.ntmps83
  go_wp2_with fail
  generalize ((w.alloc (.cells #[.pointer p, .int .i64 n, .bool on, .int .i64 c, .int .i64 i, .bool hit] 119)).alloc (.cells #[.bool false, .int .i64 0, .int .i64 0, .bool false] 27)).alloc (.cells #[.int .i64 0, .int .i64 0, .int .u32 0, .int .u32 0, .int .u32 0] 39) = w1 at *
  generalize w.heap.size = B at *
  clear hcf
  refine (HC.out _ HF0.out.memo).mono ?_
  intro e w2 hF
  obtain ⟨rfl, hO, hM⟩ := hF
  dsimp only [WkV.v]
  have HF1 := Lib.hid (HF0.out.call hO hM)
  clear hO hM HF0 HC
  have HF2 := Lib.hid (HF1.out.keep (((Only.refl Nil w2).alloc (.cells #[.bool true, .int .i64 c, .int .i64 j, .bool b] 27)).alloc (.cells #[.int .i64 ka, .int .i64 ca, .int .u32 xa, .int .u32 ya, .int .u32 oa] 39)))
  have HK := Lib.hid ((Row.new w2 27 #[.bool true, .int .i64 c, .int .i64 j, .bool b]).alloc (.cells #[.int .i64 ka, .int .i64 ca, .int .u32 xa, .int .u32 ya, .int .u32 oa] 39))
  have HN := Lib.hid (Row.new2 w2 (.cells #[.bool true, .int .i64 c, .int .i64 j, .bool b] 27) 39 #[.int .i64 ka, .int .i64 ca, .int .u32 xa, .int .u32 ya, .int .u32 oa])
  have HG := Lib.hid (show B + 1 + 1 < w2.heap.size from HF1.out.ra.lt)
  clear HF1
  go_wp2_with fail
  generalize (w2.alloc (.cells #[.bool true, .int .i64 c, .int .i64 j, .bool b] 27)).alloc (.cells #[.int .i64 ka, .int .i64 ca, .int .u32 xa, .int .u32 ya, .int .u32 oa] 39) = w3 at *
  generalize w2.heap.size = g at *
  refine wp_region_held_drew (S := fun w' => (Six w' B (.pointer p) (.int .i64 n) (.bool on) (.int .i64 c) (.int .i64 i) (.bool hit)) ∧ Four w' g (.bool true) (.int .i64 c) (.int .i64 j) (.bool b)) (by kernel_rfl) ⟨HF2.out.rt.six, HK.out.four⟩ (fun hHeld => ?_)
  have HF3 := Lib.hid (HF2.out.keep (Only.refl Nil w3).drew)
  have HK3 := Lib.hid HK.out.drew
  have HN3 := Lib.hid HN.out.drew
  clear HF2 HK HN
  generalize w3.drew = w4 at *
  refine zk 0 rfl ?_
  refine zk 1 rfl ?_
  refine zk 2 rfl ?_
  refine mps 3 rfl ?_
  try simp only [Act.put, k1, k2, k3]
  refine mps 4 rfl ?_
  try simp only [Act.put, k1, k2, k3]
  refine mps 5 rfl ?_
  try simp only [Act.put, k1, k2, k3]
  refine mps 6 rfl ?_
  try simp only [Act.put, k1, k2, k3]
  refine zk 7 rfl ?_
  refine wpAnyH_done (by kernel_rfl) ?_ _
  clear hHeld
  go_wp2_with fail
  refine wp_region_held_drew (S := fun w' => (Four w' g (.bool true) (.int .i64 c) (.int .i64 j) (.bool b)) ∧ Five w' (g + 1) (.int .i64 ka) (.int .i64 ca) (.int .u32 xa) (.int .u32 ya) (.int .u32 oa)) (by kernel_rfl) ⟨HK3.out.four, HN3.out.five⟩ (fun hHeld => ?_)
  have HF6 := Lib.hid (HF3.out.keep (Only.refl Nil w4).drew)
  have HK6 := Lib.hid HK3.out.drew
  have HN6 := Lib.hid HN3.out.drew
  clear HF3 HK3 HN3
  generalize w4.drew = w6 at *
  refine zk 0 rfl ?_
  refine zk 1 rfl ?_
  have n0 : w6.cell? ⟨B + 1, 0, none⟩ = some (.bool false) := HF6.out.rn.cell_ (i := 0) rfl
  have n1 : w6.cell? ⟨B + 1, 1, none⟩ = some (.int .i64 0) := HF6.out.rn.cell_ (i := 1) rfl
  have n2 : w6.cell? ⟨B + 1, 2, none⟩ = some (.int .i64 0) := HF6.out.rn.cell_ (i := 2) rfl
  have n3 : w6.cell? ⟨B + 1, 3, none⟩ = some (.bool false) := HF6.out.rn.cell_ (i := 3) rfl
  have m0 : w6.frozen? ⟨B + 1, 0, none⟩ = false := HF6.out.rn.frozen 0
  have m1 : w6.frozen? ⟨B + 1, 1, none⟩ = false := HF6.out.rn.frozen 1
  have m2 : w6.frozen? ⟨B + 1, 2, none⟩ = false := HF6.out.rn.frozen 2
  have m3 : w6.frozen? ⟨B + 1, 3, none⟩ = false := HF6.out.rn.frozen 3
  refine mcl 2 rfl (by kernel_rfl) (by rfl) (fun K hK => ?_)
  go_simp
  have ho := four_only (Only.refl (· = B + 1) w6) (g := B + 1) (.inr rfl) (.bool false) (.int .i64 0) (.int .i64 0) (.bool false)
  have HF7 := Lib.hid (HF6.out.setN (.bool false) (.int .i64 0) (.int .i64 0) (.bool false))
  have HK7 := Lib.hid (HK6.out.only ho (by have := HG.out; show ¬ g = B + 1; omega))
  have HN7 := Lib.hid (HN6.out.only ho (by have := HG.out; show ¬ g + 1 = B + 1; omega))
  clear ho
  refine hK.out _ _ ⟨HK7.out.four, HN7.out.five⟩ (fun hHeld2 => ?_)
  clear hK K hHeld n0 n1 n2 n3 m0 m1 m2 m3 HF6 HK6 HN6
  generalize (((w6.setCell ⟨B + 1, 0, none⟩ (.bool false)).setCell ⟨B + 1, 1, none⟩ (.int .i64 0)).setCell ⟨B + 1, 2, none⟩ (.int .i64 0)).setCell ⟨B + 1, 3, none⟩ (.bool false) = w7 at *
  have r0 : w7.cell? ⟨B + 1 + 1, 0, none⟩ = some (.int .i64 0) := HF7.out.ra.cell_ (i := 0) rfl
  have r1 : w7.cell? ⟨B + 1 + 1, 1, none⟩ = some (.int .i64 0) := HF7.out.ra.cell_ (i := 1) rfl
  have r2 : w7.cell? ⟨B + 1 + 1, 2, none⟩ = some (.int .u32 0) := HF7.out.ra.cell_ (i := 2) rfl
  have r3 : w7.cell? ⟨B + 1 + 1, 3, none⟩ = some (.int .u32 0) := HF7.out.ra.cell_ (i := 3) rfl
  have r4 : w7.cell? ⟨B + 1 + 1, 4, none⟩ = some (.int .u32 0) := HF7.out.ra.cell_ (i := 4) rfl
  have q0 : w7.frozen? ⟨B + 1 + 1, 0, none⟩ = false := HF7.out.ra.frozen 0
  have q1 : w7.frozen? ⟨B + 1 + 1, 1, none⟩ = false := HF7.out.ra.frozen 1
  have q2 : w7.frozen? ⟨B + 1 + 1, 2, none⟩ = false := HF7.out.ra.frozen 2
  have q3 : w7.frozen? ⟨B + 1 + 1, 3, none⟩ = false := HF7.out.ra.frozen 3
  have q4 : w7.frozen? ⟨B + 1 + 1, 4, none⟩ = false := HF7.out.ra.frozen 4
  refine mcl 3 rfl (by kernel_rfl) (by rfl) (fun K hK => ?_)
  go_simp
  have ho := five_only (Only.refl (· = B + 1 + 1) w7) (g := B + 1 + 1) (.inr rfl) (.int .i64 ka) (.int .i64 ca) (.int .u32 xa) (.int .u32 ya) (.int .u32 oa)
  have HF8 := Lib.hid (HF7.out.setA (.int .i64 ka) (.int .i64 ca) (.int .u32 xa) (.int .u32 ya) (.int .u32 oa))
  have HK8 := Lib.hid (HK7.out.only ho (by have := HG.out; show ¬ g = B + 1 + 1; omega))
  have HN8 := Lib.hid (HN7.out.only ho (by have := HG.out; show ¬ g + 1 = B + 1 + 1; omega))
  clear ho
  refine hK.out _ _ ⟨HK8.out.four, HN8.out.five⟩ (fun hHeld3 => ?_)
  clear hK K hHeld2 r0 r1 r2 r3 r4 q0 q1 q2 q3 q4 HF7 HK7 HN7
  generalize (((((w7.setCell ⟨B + 1 + 1, 0, none⟩ (.int .i64 ka)).setCell ⟨B + 1 + 1, 1, none⟩ (.int .i64 ca)).setCell ⟨B + 1 + 1, 2, none⟩ (.int .u32 xa)).setCell ⟨B + 1 + 1, 3, none⟩ (.int .u32 ya)).setCell ⟨B + 1 + 1, 4, none⟩ (.int .u32 oa)) = w8 at *
  refine wpAnyH_done (by kernel_rfl) ?_ _
  clear hHeld3
  go_wp2
  exact post_two (P := Tryz.prog) Tryz.results83 (by rfl) HF8.out.rn Tryz.underlying27 rfl (by kernel_rfl) (by rfl) HF8.out.ra Tryz.underlying39 rfl (by kernel_rfl) rfl ⟨rfl, HF8.out.only, HF8.out.memo⟩
set_option maxHeartbeats 400000 in
theorem tdo_end (FF : FuncId) (hcf : Enters FF) (p A : Option Addr) (cp : Nat) (xs ys : List Int) (n : Int) (on : Bool) (c i : Int) (hit : Bool) (ka ca xa ya oa : Int) (w : World) (h : Memo w p A cp xs)
    (hc : ∀ w, Memo w p A cp xs → Calls Tryz.prog FF #[.agg #[.pointer p, .int .i64 n, .bool on, .int .i64 c, .int .i64 i, .bool hit]] w (Turned p A cp ⟨true, c, n, false⟩ (.agg #[.int .i64 ka, .int .i64 ca, .int .u32 xa, .int .u32 ya, .int .u32 oa]) true ys w)) :
    Calls Tryz.prog 83 #[.agg #[.pointer p, .int .i64 n, .bool on, .int .i64 c, .int .i64 i, .bool hit], .func (.func FF) #[.agg #[.pointer p, .int .i64 n, .bool on, .int .i64 c, .int .i64 i, .bool hit]] #[]] w (Woke p A cp wk0 (.agg #[.int .i64 ka, .int .i64 ca, .int .u32 xa, .int .u32 ya, .int .u32 oa]) ys w) := by
  have HF0 := Lib.hid (TF.start #[.pointer p, .int .i64 n, .bool on, .int .i64 c, .int .i64 i, .bool hit] h)
  have HC := Lib.hid hc
  clear h hc
  unfold Enters at hcf
  go_enter Tryz.func83, Tryz.ntmps83
  go_wp2_with fail
  generalize ((w.alloc (.cells #[.pointer p, .int .i64 n, .bool on, .int .i64 c, .int .i64 i, .bool hit] 119)).alloc (.cells #[.bool false, .int .i64 0, .int .i64 0, .bool false] 27)).alloc (.cells #[.int .i64 0, .int .i64 0, .int .u32 0, .int .u32 0, .int .u32 0] 39) = w1 at *
  generalize w.heap.size = B at *
  clear hcf
  refine (HC.out _ HF0.out.memo).mono ?_
  intro e w2 hF
  obtain ⟨rfl, hO, hM⟩ := hF
  dsimp only [WkV.v]
  have HF1 := Lib.hid (HF0.out.call hO hM)
  clear hO hM HF0 HC
  have HF2 := Lib.hid (HF1.out.keep (((Only.refl Nil w2).alloc (.cells #[.bool true, .int .i64 c, .int .i64 n, .bool false] 27)).alloc (.cells #[.int .i64 ka, .int .i64 ca, .int .u32 xa, .int .u32 ya, .int .u32 oa] 39)))
  have HK := Lib.hid ((Row.new w2 27 #[.bool true, .int .i64 c, .int .i64 n, .bool false]).alloc (.cells #[.int .i64 ka, .int .i64 ca, .int .u32 xa, .int .u32 ya, .int .u32 oa] 39))
  have HN := Lib.hid (Row.new2 w2 (.cells #[.bool true, .int .i64 c, .int .i64 n, .bool false] 27) 39 #[.int .i64 ka, .int .i64 ca, .int .u32 xa, .int .u32 ya, .int .u32 oa])
  have HG := Lib.hid (show B + 1 + 1 < w2.heap.size from HF1.out.ra.lt)
  clear HF1
  go_wp2_with fail
  generalize (w2.alloc (.cells #[.bool true, .int .i64 c, .int .i64 n, .bool false] 27)).alloc (.cells #[.int .i64 ka, .int .i64 ca, .int .u32 xa, .int .u32 ya, .int .u32 oa] 39) = w3 at *
  generalize w2.heap.size = g at *
  refine wp_region_held_drew (S := fun w' => (Six w' B (.pointer p) (.int .i64 n) (.bool on) (.int .i64 c) (.int .i64 i) (.bool hit)) ∧ Four w' g (.bool true) (.int .i64 c) (.int .i64 n) (.bool false)) (by kernel_rfl) ⟨HF2.out.rt.six, HK.out.four⟩ (fun hHeld => ?_)
  have HF3 := Lib.hid (HF2.out.keep (Only.refl Nil w3).drew)
  have HK3 := Lib.hid HK.out.drew
  have HN3 := Lib.hid HN.out.drew
  clear HF2 HK HN
  generalize w3.drew = w4 at *
  refine zk 0 rfl ?_
  refine zk 1 rfl ?_
  refine zk 2 rfl ?_
  refine zk 3 rfl ?_
  refine zk 4 rfl ?_
  refine mcl 5 rfl (by kernel_rfl) (by rfl) (fun K hK => ?_)
  go_simp
  refine (end_any p n on c i hit _).mono ?_
  rintro e w5 ⟨rfl, hO⟩
  have HF4 := Lib.hid (HF3.out.keep hO)
  have HK4 := Lib.hid (HK3.out.only hO id)
  have HN4 := Lib.hid (HN3.out.only hO id)
  refine hK.out _ _ ⟨HF4.out.rt.six, HK4.out.four⟩ (fun hHeld2 => ?_)
  clear hK K hHeld hO HF3 HK3 HN3
  have HF3 := HF4
  have HK3 := HK4
  have HN3 := HN4
  have hHeld := hHeld2
  clear HF4 HK4 HN4 hHeld2
  refine zk 6 rfl ?_
  refine zk 7 rfl ?_
  refine wpAnyH_done (by kernel_rfl) ?_ _
  clear hHeld
  go_wp2_with fail
  refine wp_region_held_drew (S := fun w' => (Four w' g (.bool true) (.int .i64 c) (.int .i64 n) (.bool false)) ∧ Five w' (g + 1) (.int .i64 ka) (.int .i64 ca) (.int .u32 xa) (.int .u32 ya) (.int .u32 oa)) (by kernel_rfl) ⟨HK3.out.four, HN3.out.five⟩ (fun hHeld => ?_)
  have HF6 := Lib.hid (HF3.out.keep (Only.refl Nil w5).drew)
  have HK6 := Lib.hid HK3.out.drew
  have HN6 := Lib.hid HN3.out.drew
  clear HF3 HK3 HN3
  generalize w5.drew = w6 at *
  refine zk 0 rfl ?_
  refine zk 1 rfl ?_
  have n0 : w6.cell? ⟨B + 1, 0, none⟩ = some (.bool false) := HF6.out.rn.cell_ (i := 0) rfl
  have n1 : w6.cell? ⟨B + 1, 1, none⟩ = some (.int .i64 0) := HF6.out.rn.cell_ (i := 1) rfl
  have n2 : w6.cell? ⟨B + 1, 2, none⟩ = some (.int .i64 0) := HF6.out.rn.cell_ (i := 2) rfl
  have n3 : w6.cell? ⟨B + 1, 3, none⟩ = some (.bool false) := HF6.out.rn.cell_ (i := 3) rfl
  have m0 : w6.frozen? ⟨B + 1, 0, none⟩ = false := HF6.out.rn.frozen 0
  have m1 : w6.frozen? ⟨B + 1, 1, none⟩ = false := HF6.out.rn.frozen 1
  have m2 : w6.frozen? ⟨B + 1, 2, none⟩ = false := HF6.out.rn.frozen 2
  have m3 : w6.frozen? ⟨B + 1, 3, none⟩ = false := HF6.out.rn.frozen 3
  refine mcl 2 rfl (by kernel_rfl) (by rfl) (fun K hK => ?_)
  go_simp
  have ho := four_only (Only.refl (· = B + 1) w6) (g := B + 1) (.inr rfl) (.bool false) (.int .i64 0) (.int .i64 0) (.bool false)
  have HF7 := Lib.hid (HF6.out.setN (.bool false) (.int .i64 0) (.int .i64 0) (.bool false))
  have HK7 := Lib.hid (HK6.out.only ho (by have := HG.out; show ¬ g = B + 1; omega))
  have HN7 := Lib.hid (HN6.out.only ho (by have := HG.out; show ¬ g + 1 = B + 1; omega))
  clear ho
  refine hK.out _ _ ⟨HK7.out.four, HN7.out.five⟩ (fun hHeld2 => ?_)
  clear hK K hHeld n0 n1 n2 n3 m0 m1 m2 m3 HF6 HK6 HN6
  generalize (((w6.setCell ⟨B + 1, 0, none⟩ (.bool false)).setCell ⟨B + 1, 1, none⟩ (.int .i64 0)).setCell ⟨B + 1, 2, none⟩ (.int .i64 0)).setCell ⟨B + 1, 3, none⟩ (.bool false) = w7 at *
  have r0 : w7.cell? ⟨B + 1 + 1, 0, none⟩ = some (.int .i64 0) := HF7.out.ra.cell_ (i := 0) rfl
  have r1 : w7.cell? ⟨B + 1 + 1, 1, none⟩ = some (.int .i64 0) := HF7.out.ra.cell_ (i := 1) rfl
  have r2 : w7.cell? ⟨B + 1 + 1, 2, none⟩ = some (.int .u32 0) := HF7.out.ra.cell_ (i := 2) rfl
  have r3 : w7.cell? ⟨B + 1 + 1, 3, none⟩ = some (.int .u32 0) := HF7.out.ra.cell_ (i := 3) rfl
  have r4 : w7.cell? ⟨B + 1 + 1, 4, none⟩ = some (.int .u32 0) := HF7.out.ra.cell_ (i := 4) rfl
  have q0 : w7.frozen? ⟨B + 1 + 1, 0, none⟩ = false := HF7.out.ra.frozen 0
  have q1 : w7.frozen? ⟨B + 1 + 1, 1, none⟩ = false := HF7.out.ra.frozen 1
  have q2 : w7.frozen? ⟨B + 1 + 1, 2, none⟩ = false := HF7.out.ra.frozen 2
  have q3 : w7.frozen? ⟨B + 1 + 1, 3, none⟩ = false := HF7.out.ra.frozen 3
  have q4 : w7.frozen? ⟨B + 1 + 1, 4, none⟩ = false := HF7.out.ra.frozen 4
  refine mcl 3 rfl (by kernel_rfl) (by rfl) (fun K hK => ?_)
  go_simp
  have ho := five_only (Only.refl (· = B + 1 + 1) w7) (g := B + 1 + 1) (.inr rfl) (.int .i64 ka) (.int .i64 ca) (.int .u32 xa) (.int .u32 ya) (.int .u32 oa)
  have HF8 := Lib.hid (HF7.out.setA (.int .i64 ka) (.int .i64 ca) (.int .u32 xa) (.int .u32 ya) (.int .u32 oa))
  have HK8 := Lib.hid (HK7.out.only ho (by have := HG.out; show ¬ g = B + 1 + 1; omega))
  have HN8 := Lib.hid (HN7.out.only ho (by have := HG.out; show ¬ g + 1 = B + 1 + 1; omega))
  clear ho
  refine hK.out _ _ ⟨HK8.out.four, HN8.out.five⟩ (fun hHeld3 => ?_)
  clear hK K hHeld2 r0 r1 r2 r3 r4 q0 q1 q2 q3 q4 HF7 HK7 HN7
  generalize (((((w7.setCell ⟨B + 1 + 1, 0, none⟩ (.int .i64 ka)).setCell ⟨B + 1 + 1, 1, none⟩ (.int .i64 ca)).setCell ⟨B + 1 + 1, 2, none⟩ (.int .u32 xa)).setCell ⟨B + 1 + 1, 3, none⟩ (.int .u32 ya)).setCell ⟨B + 1 + 1, 4, none⟩ (.int .u32 oa)) = w8 at *
  refine wpAnyH_done (by kernel_rfl) ?_ _
  clear hHeld3
  go_wp2
  exact post_two (P := Tryz.prog) Tryz.results83 (by rfl) HF8.out.rn Tryz.underlying27 rfl (by kernel_rfl) (by rfl) HF8.out.ra Tryz.underlying39 rfl (by kernel_rfl) rfl ⟨rfl, HF8.out.only, HF8.out.memo⟩
set_option maxHeartbeats 400000 in
theorem tdo_on (FF : FuncId) (hcf : Enters FF) (p A : Option Addr) (cp : Nat) (xs ys : List Int) (n : Int) (on : Bool) (c i : Int) (hit : Bool) (j : Int) (b : Bool) (ka ca xa ya oa : Int) (w : World) (h : Memo w p A cp xs) (hq : (decide (j = n) && !b) = false)
    (hc : ∀ w, Memo w p A cp xs → Calls Tryz.prog FF #[.agg #[.pointer p, .int .i64 n, .bool on, .int .i64 c, .int .i64 i, .bool hit]] w (Turned p A cp ⟨true, c, j, b⟩ (.agg #[.int .i64 ka, .int .i64 ca, .int .u32 xa, .int .u32 ya, .int .u32 oa]) true ys w)) :
    Calls Tryz.prog 83 #[.agg #[.pointer p, .int .i64 n, .bool on, .int .i64 c, .int .i64 i, .bool hit], .func (.func FF) #[.agg #[.pointer p, .int .i64 n, .bool on, .int .i64 c, .int .i64 i, .bool hit]] #[]] w (Woke p A cp ⟨true, c, j, b⟩ (.agg #[.int .i64 ka, .int .i64 ca, .int .u32 xa, .int .u32 ya, .int .u32 oa]) ys w) := by
  have hq2 : j = n → b = true := fun e => by cases b <;> simp_all
  have HQ := Lib.hid hq2
  clear hq hq2
  have HF0 := Lib.hid (TF.start #[.pointer p, .int .i64 n, .bool on, .int .i64 c, .int .i64 i, .bool hit] h)
  have HC := Lib.hid hc
  clear h hc
  unfold Enters at hcf
  go_enter Tryz.func83, Tryz.ntmps83
  go_wp2_with fail
  generalize ((w.alloc (.cells #[.pointer p, .int .i64 n, .bool on, .int .i64 c, .int .i64 i, .bool hit] 119)).alloc (.cells #[.bool false, .int .i64 0, .int .i64 0, .bool false] 27)).alloc (.cells #[.int .i64 0, .int .i64 0, .int .u32 0, .int .u32 0, .int .u32 0] 39) = w1 at *
  generalize w.heap.size = B at *
  clear hcf
  refine (HC.out _ HF0.out.memo).mono ?_
  intro e w2 hF
  obtain ⟨rfl, hO, hM⟩ := hF
  dsimp only [WkV.v]
  have HF1 := Lib.hid (HF0.out.call hO hM)
  clear hO hM HF0 HC
  have HF2 := Lib.hid (HF1.out.keep (((Only.refl Nil w2).alloc (.cells #[.bool true, .int .i64 c, .int .i64 j, .bool b] 27)).alloc (.cells #[.int .i64 ka, .int .i64 ca, .int .u32 xa, .int .u32 ya, .int .u32 oa] 39)))
  have HK := Lib.hid ((Row.new w2 27 #[.bool true, .int .i64 c, .int .i64 j, .bool b]).alloc (.cells #[.int .i64 ka, .int .i64 ca, .int .u32 xa, .int .u32 ya, .int .u32 oa] 39))
  have HN := Lib.hid (Row.new2 w2 (.cells #[.bool true, .int .i64 c, .int .i64 j, .bool b] 27) 39 #[.int .i64 ka, .int .i64 ca, .int .u32 xa, .int .u32 ya, .int .u32 oa])
  have HG := Lib.hid (show B + 1 + 1 < w2.heap.size from HF1.out.ra.lt)
  clear HF1
  go_wp2_with fail
  generalize (w2.alloc (.cells #[.bool true, .int .i64 c, .int .i64 j, .bool b] 27)).alloc (.cells #[.int .i64 ka, .int .i64 ca, .int .u32 xa, .int .u32 ya, .int .u32 oa] 39) = w3 at *
  generalize w2.heap.size = g at *
  refine wp_region_held_drew (S := fun w' => (Six w' B (.pointer p) (.int .i64 n) (.bool on) (.int .i64 c) (.int .i64 i) (.bool hit)) ∧ Four w' g (.bool true) (.int .i64 c) (.int .i64 j) (.bool b)) (by kernel_rfl) ⟨HF2.out.rt.six, HK.out.four⟩ (fun hHeld => ?_)
  have HF3 := Lib.hid (HF2.out.keep (Only.refl Nil w3).drew)
  have HK3 := Lib.hid HK.out.drew
  have HN3 := Lib.hid HN.out.drew
  clear HF2 HK HN
  generalize w3.drew = w4 at *
  refine zk 0 rfl ?_
  refine zk 1 rfl ?_
  refine zk 2 rfl ?_
  refine zk 3 rfl ?_
  refine zk 4 rfl ?_
  refine mcl 5 rfl (by kernel_rfl) (by rfl) (fun K hK => ?_)
  go_simp
  refine (end_any p n on c i hit _).mono ?_
  rintro e w5 ⟨rfl, hO⟩
  have HF4 := Lib.hid (HF3.out.keep hO)
  have HK4 := Lib.hid (HK3.out.only hO id)
  have HN4 := Lib.hid (HN3.out.only hO id)
  refine hK.out _ _ ⟨HF4.out.rt.six, HK4.out.four⟩ (fun hHeld2 => ?_)
  clear hK K hHeld hO HF3 HK3 HN3
  have HF3 := HF4
  have HK3 := HK4
  have HN3 := HN4
  have hHeld := hHeld2
  clear HF4 HK4 HN4 hHeld2
  refine mtk 6 rfl (.bool false) (fun w hSw => ?_) ?_
  · go_split_ands
    go_simp
    by_cases e1 : j = n
    · have e2 := HQ.out e1
      simp [e1, e2]
    · simp [e1]
  refine zk 7 rfl ?_
  refine wpAnyH_done (by kernel_rfl) ?_ _
  clear hHeld
  go_wp2_with fail
  refine wp_region_held_drew (S := fun w' => (Four w' g (.bool true) (.int .i64 c) (.int .i64 j) (.bool b)) ∧ Five w' (g + 1) (.int .i64 ka) (.int .i64 ca) (.int .u32 xa) (.int .u32 ya) (.int .u32 oa)) (by kernel_rfl) ⟨HK3.out.four, HN3.out.five⟩ (fun hHeld => ?_)
  have HF6 := Lib.hid (HF3.out.keep (Only.refl Nil w5).drew)
  have HK6 := Lib.hid HK3.out.drew
  have HN6 := Lib.hid HN3.out.drew
  clear HF3 HK3 HN3
  generalize w5.drew = w6 at *
  refine zk 0 rfl ?_
  refine zk 1 rfl ?_
  have n0 : w6.cell? ⟨B + 1, 0, none⟩ = some (.bool false) := HF6.out.rn.cell_ (i := 0) rfl
  have n1 : w6.cell? ⟨B + 1, 1, none⟩ = some (.int .i64 0) := HF6.out.rn.cell_ (i := 1) rfl
  have n2 : w6.cell? ⟨B + 1, 2, none⟩ = some (.int .i64 0) := HF6.out.rn.cell_ (i := 2) rfl
  have n3 : w6.cell? ⟨B + 1, 3, none⟩ = some (.bool false) := HF6.out.rn.cell_ (i := 3) rfl
  have m0 : w6.frozen? ⟨B + 1, 0, none⟩ = false := HF6.out.rn.frozen 0
  have m1 : w6.frozen? ⟨B + 1, 1, none⟩ = false := HF6.out.rn.frozen 1
  have m2 : w6.frozen? ⟨B + 1, 2, none⟩ = false := HF6.out.rn.frozen 2
  have m3 : w6.frozen? ⟨B + 1, 3, none⟩ = false := HF6.out.rn.frozen 3
  refine mcl 2 rfl (by kernel_rfl) (by rfl) (fun K hK => ?_)
  go_simp
  have ho := four_only (Only.refl (· = B + 1) w6) (g := B + 1) (.inr rfl) (.bool true) (.int .i64 c) (.int .i64 j) (.bool b)
  have HF7 := Lib.hid (HF6.out.setN (.bool true) (.int .i64 c) (.int .i64 j) (.bool b))
  have HK7 := Lib.hid (HK6.out.only ho (by have := HG.out; show ¬ g = B + 1; omega))
  have HN7 := Lib.hid (HN6.out.only ho (by have := HG.out; show ¬ g + 1 = B + 1; omega))
  clear ho
  refine hK.out _ _ ⟨HK7.out.four, HN7.out.five⟩ (fun hHeld2 => ?_)
  clear hK K hHeld n0 n1 n2 n3 m0 m1 m2 m3 HF6 HK6 HN6
  generalize (((w6.setCell ⟨B + 1, 0, none⟩ (.bool true)).setCell ⟨B + 1, 1, none⟩ (.int .i64 c)).setCell ⟨B + 1, 2, none⟩ (.int .i64 j)).setCell ⟨B + 1, 3, none⟩ (.bool b) = w7 at *
  have r0 : w7.cell? ⟨B + 1 + 1, 0, none⟩ = some (.int .i64 0) := HF7.out.ra.cell_ (i := 0) rfl
  have r1 : w7.cell? ⟨B + 1 + 1, 1, none⟩ = some (.int .i64 0) := HF7.out.ra.cell_ (i := 1) rfl
  have r2 : w7.cell? ⟨B + 1 + 1, 2, none⟩ = some (.int .u32 0) := HF7.out.ra.cell_ (i := 2) rfl
  have r3 : w7.cell? ⟨B + 1 + 1, 3, none⟩ = some (.int .u32 0) := HF7.out.ra.cell_ (i := 3) rfl
  have r4 : w7.cell? ⟨B + 1 + 1, 4, none⟩ = some (.int .u32 0) := HF7.out.ra.cell_ (i := 4) rfl
  have q0 : w7.frozen? ⟨B + 1 + 1, 0, none⟩ = false := HF7.out.ra.frozen 0
  have q1 : w7.frozen? ⟨B + 1 + 1, 1, none⟩ = false := HF7.out.ra.frozen 1
  have q2 : w7.frozen? ⟨B + 1 + 1, 2, none⟩ = false := HF7.out.ra.frozen 2
  have q3 : w7.frozen? ⟨B + 1 + 1, 3, none⟩ = false := HF7.out.ra.frozen 3
  have q4 : w7.frozen? ⟨B + 1 + 1, 4, none⟩ = false := HF7.out.ra.frozen 4
  refine mcl 3 rfl (by kernel_rfl) (by rfl) (fun K hK => ?_)
  go_simp
  have ho := five_only (Only.refl (· = B + 1 + 1) w7) (g := B + 1 + 1) (.inr rfl) (.int .i64 ka) (.int .i64 ca) (.int .u32 xa) (.int .u32 ya) (.int .u32 oa)
  have HF8 := Lib.hid (HF7.out.setA (.int .i64 ka) (.int .i64 ca) (.int .u32 xa) (.int .u32 ya) (.int .u32 oa))
  have HK8 := Lib.hid (HK7.out.only ho (by have := HG.out; show ¬ g = B + 1 + 1; omega))
  have HN8 := Lib.hid (HN7.out.only ho (by have := HG.out; show ¬ g + 1 = B + 1 + 1; omega))
  clear ho
  refine hK.out _ _ ⟨HK8.out.four, HN8.out.five⟩ (fun hHeld3 => ?_)
  clear hK K hHeld2 r0 r1 r2 r3 r4 q0 q1 q2 q3 q4 HF7 HK7 HN7
  generalize (((((w7.setCell ⟨B + 1 + 1, 0, none⟩ (.int .i64 ka)).setCell ⟨B + 1 + 1, 1, none⟩ (.int .i64 ca)).setCell ⟨B + 1 + 1, 2, none⟩ (.int .u32 xa)).setCell ⟨B + 1 + 1, 3, none⟩ (.int .u32 ya)).setCell ⟨B + 1 + 1, 4, none⟩ (.int .u32 oa)) = w8 at *
  refine wpAnyH_done (by kernel_rfl) ?_ _
  clear hHeld3
  go_wp2
  exact post_two (P := Tryz.prog) Tryz.results83 (by rfl) HF8.out.rn Tryz.underlying27 rfl (by kernel_rfl) (by rfl) HF8.out.ra Tryz.underlying39 rfl (by kernel_rfl) rfl ⟨rfl, HF8.out.only, HF8.out.memo⟩
end Go.Proofs.YtaeninikaalkjaaGreat
