import Derived.Deep.Cut
import Derived.Test.YtaeninikaalkjaaGreatH26
import Derived.Test.YtaeninikaalkjaaGreatH6
import Derived.Test.YtaeninikaalkjaaGreatH29
import Derived.Test.YtaeninikaalkjaaGreatH14
import Derived.Test.YtaeninikaalkjaaGreatH5
set_option linter.unusedVariables false
set_option linter.unusedSimpArgs false
namespace Go.Proofs.YtaeninikaalkjaaGreat
open Go.RowKit
def RStepped (base : Nat) (A : Option Addr) (cp : Nat) (r : StepR) (w : World) (e : Ending) (w' : World) : Prop :=
  e = .returned (.tuple #[.agg #[.int .i64 r.next], r.acc, .bool r.seen, .bool r.done]) ∧ Only (At A) w w' ∧ Own w' base A cp r.xs
structure RF (w0 : World) (base : Nat) (A : Option Addr) (cp : Nat) (B : Nat) (s k m x ns : Int) (acs : Array Value) (W : World) (xs : List Int) : Prop where
  only : Only (At A) w0 W
  own : Own W base A cp xs
  rs : Row W B 25 #[.int .i64 s]
  ru : Row W (B + 1) 79 #[.int .i64 k, .int .u32 m, .int .u32 x]
  rn : Row W (B + 1 + 1) 25 #[.int .i64 ns]
  ra : Row W (B + 1 + 1 + 1) 39 acs
  lt : ∀ j, At A j → j < B
  hw : w0.heap.size ≤ B
section
variable {w0 W W' : World} {A : Option Addr} {base cp B : Nat} {s k m x ns : Int} {acs : Array Value} {xs ys : List Int}
theorem RF.call (h : RF w0 base A cp B s k m x ns acs W xs) (ho : Only (At A) W W') (hm : Own W' base A cp ys) : RF w0 base A cp B s k m x ns acs W' ys :=
  ⟨h.only.trans ho, hm, h.rs.only ho (fun e => by have := h.lt _ e; omega), h.ru.only ho (fun e => by have := h.lt _ e; omega), h.rn.only ho (fun e => by have := h.lt _ e; omega), h.ra.only ho (fun e => by have := h.lt _ e; omega), h.lt, h.hw⟩
theorem RF.keep (h : RF w0 base A cp B s k m x ns acs W xs) (ho : Only Nil W W') : RF w0 base A cp B s k m x ns acs W' xs := h.call (ho.mono (fun _ _ h => h.elim)) (h.own.only ho (fun _ _ => id))
theorem RF.setN (h : RF w0 base A cp B s k m x ns acs W xs) (u : Int) : RF w0 base A cp B s k m x u acs (W.setCell ⟨B + 1 + 1, 0, none⟩ (.int .i64 u)) xs := by
  have ho := (Only.refl (· = B + 1 + 1) W).setCell (p := ⟨B + 1 + 1, 0, none⟩) (.inr rfl) (.int .i64 u)
  exact ⟨h.only.setCell (.inl (by have := h.hw; show w0.heap.size ≤ B + 1 + 1; omega)) _, h.own.only ho (fun j hj e => by have := h.lt j hj; omega), h.rs.only ho (fun e => by omega), h.ru.only ho (fun e => by omega), h.rn.set 0 _, h.ra.only ho (fun e => by omega), h.lt, h.hw⟩
theorem RF.setA {a0 a1 a2 a3 a4 : Value} (h : RF w0 base A cp B s k m x ns #[a0, a1, a2, a3, a4] W xs) (v0 v1 v2 v3 v4 : Value) :
    RF w0 base A cp B s k m x ns #[v0, v1, v2, v3, v4] (((((W.setCell ⟨B + 1 + 1 + 1, 0, none⟩ v0).setCell ⟨B + 1 + 1 + 1, 1, none⟩ v1).setCell ⟨B + 1 + 1 + 1, 2, none⟩ v2).setCell ⟨B + 1 + 1 + 1, 3, none⟩ v3).setCell ⟨B + 1 + 1 + 1, 4, none⟩ v4) xs := by
  have ho := five_only (Only.refl (· = B + 1 + 1 + 1) W) (g := B + 1 + 1 + 1) (.inr rfl) v0 v1 v2 v3 v4
  exact ⟨five_only h.only (.inl (by have := h.hw; omega)) _ _ _ _ _, h.own.only ho (fun j hj e => by have := h.lt j hj; omega), h.rs.only ho (fun e => by omega), h.ru.only ho (fun e => by omega), h.rn.only ho (fun e => by omega), five h.ra _ _ _ _ _, h.lt, h.hw⟩
theorem RF.start {w : World} {A : Option Addr} {base cp : Nat} {xs : List Int} (s k m x : Int) (h : Own w base A cp xs) :
    RF w base A cp w.heap.size s k m x 0 #[.int .i64 0, .int .i64 0, .int .u32 0, .int .u32 0, .int .u32 0] ((((w.alloc (.cells #[.int .i64 s] 25)).alloc (.cells #[.int .i64 k, .int .u32 m, .int .u32 x] 79)).alloc (.cells #[.int .i64 0] 25)).alloc (.cells #[.int .i64 0, .int .i64 0, .int .u32 0, .int .u32 0, .int .u32 0] 39)) xs := by
  have e0 := ((((Only.refl Nil w).alloc (.cells #[.int .i64 s] 25)).alloc (.cells #[.int .i64 k, .int .u32 m, .int .u32 x] 79)).alloc (.cells #[.int .i64 0] 25)).alloc (.cells #[.int .i64 0, .int .i64 0, .int .u32 0, .int .u32 0, .int .u32 0] 39)
  refine ⟨e0.mono (fun _ _ h => h.elim), h.only e0 (fun _ _ => id), (((Row.new w _ _).alloc _).alloc _).alloc _, ((Row.new2 w _ _ _).alloc _).alloc _, ?_, ?_, h.lt, Nat.le_refl _⟩
  · have e := (Row.new2 (w.alloc (.cells #[.int .i64 s] 25)) (.cells #[.int .i64 k, .int .u32 m, .int .u32 x] 79) 25 #[.int .i64 0]).alloc (.cells #[.int .i64 0, .int .i64 0, .int .u32 0, .int .u32 0, .int .u32 0] 39)
    rwa [show (w.alloc (.cells #[.int .i64 s] 25)).heap.size = w.heap.size + 1 by simp] at e
  · have e := Row.new2 ((w.alloc (.cells #[.int .i64 s] 25)).alloc (.cells #[.int .i64 k, .int .u32 m, .int .u32 x] 79)) (.cells #[.int .i64 0] 25) 39 #[.int .i64 0, .int .i64 0, .int .u32 0, .int .u32 0, .int .u32 0]
    rwa [show ((w.alloc (.cells #[.int .i64 s] 25)).alloc (.cells #[.int .i64 k, .int .u32 m, .int .u32 x] 79)).heap.size = w.heap.size + 1 + 1 by simp] at e
end
set_option maxHeartbeats 400000 in
theorem rstep_spin_yes (base : Nat) (A : Option Addr) (l cp : Nat) (xs : List Int) (n mode i s c k m x : Int) (w : World) (h : Own w base A cp xs) (hn : xs.length = l) (hx : Words xs) (hm : ¬ mode = 2) (hb : uIs k m x (wordAt xs c) = true) :
    Calls Tryz.prog 74 #[.slice A l cp, .int .i64 n, .int .i64 mode, .int .i64 i, .agg #[.int .i64 s], .int .i64 c, .agg #[.int .i64 k, .int .u32 m, .int .u32 x]] w (RStepped base A cp ⟨0, doVal xs 1 c 0 0, true, true, xs⟩ w) := by
  have hm' : (mode != 2) = true := bne_iff_ne.2 hm
  have HB := Lib.hid hb
  clear hb
  have HF0 := Lib.hid (RF.start s k m x h)
  have HX := Lib.hid hx
  have HLN := Lib.hid hn
  clear h hx hn
  go_enter Tryz.func74, Tryz.ntmps74
  go_wp2_with fail
  generalize (((w.alloc (.cells #[.int .i64 s] 25)).alloc (.cells #[.int .i64 k, .int .u32 m, .int .u32 x] 79)).alloc (.cells #[.int .i64 0] 25)).alloc (.cells #[.int .i64 0, .int .i64 0, .int .u32 0, .int .u32 0, .int .u32 0] 39) = w1 at *
  generalize w.heap.size = B at *
  refine (refdo_any base A l cp xs 1 c 0 0 0 _ HF0.out.own HLN.out).mono ?_
  obtain ⟨ka, ca, xa, ya, hv⟩ := doVal_form xs 1 c 0 0
  rw [oldAt xs 1 c rfl] at hv
  rw [hv, doNew_load]
  rintro e w2 ⟨rfl, hO, hM⟩
  have HF1 := Lib.hid (HF0.out.call hO hM)
  have HV := Lib.hid hv
  have HBD := Lib.hid (word_wf HX.out c)
  clear hO hM hv HF0
  generalize wordAt xs c = oa at *
  generalize doOk xs 1 c = ok at *
  have HF2 := Lib.hid (HF1.out.keep ((Only.refl Nil w2).alloc (.cells #[.int .i64 ka, .int .i64 ca, .int .u32 xa, .int .u32 ya, .int .u32 oa] 39)))
  have HN := Lib.hid (Row.new w2 39 #[.int .i64 ka, .int .i64 ca, .int .u32 xa, .int .u32 ya, .int .u32 oa])
  have HG := Lib.hid (show B + 1 + 1 + 1 < w2.heap.size from HF1.out.ra.lt)
  have u0 : ∀ o, (w2.alloc o).cell? ⟨B + 1, 0, none⟩ = some (.int .i64 k) := fun o => (HF1.out.ru.alloc o).cell_ (i := 0) rfl
  have u1 : ∀ o, (w2.alloc o).cell? ⟨B + 1, 1, none⟩ = some (.int .u32 m) := fun o => (HF1.out.ru.alloc o).cell_ (i := 1) rfl
  have u2 : ∀ o, (w2.alloc o).cell? ⟨B + 1, 2, none⟩ = some (.int .u32 x) := fun o => (HF1.out.ru.alloc o).cell_ (i := 2) rfl
  go_wp2_with fail
  clear u0 u1 u2 HF1
  generalize w2.alloc (.cells #[.int .i64 ka, .int .i64 ca, .int .u32 xa, .int .u32 ya, .int .u32 oa] 39) = w3 at *
  generalize w2.heap.size = g at *
  refine (is_any k m x oa _ HBD.out.1 HBD.out.2).mono ?_
  rw [HB.out]
  rintro e w4 ⟨rfl, hO⟩
  have HF4 := Lib.hid (HF2.out.keep hO)
  have HN4 := Lib.hid (HN.out.only hO id)
  clear hO HF2 HN
  go_wp2_with fail
  have c0 : w4.cell? ⟨g, 0, none⟩ = some (.int .i64 ka) := HN4.out.cell_ (i := 0) rfl
  have c1 : w4.cell? ⟨g, 1, none⟩ = some (.int .i64 ca) := HN4.out.cell_ (i := 1) rfl
  have c2 : w4.cell? ⟨g, 2, none⟩ = some (.int .u32 xa) := HN4.out.cell_ (i := 2) rfl
  have c3 : w4.cell? ⟨g, 3, none⟩ = some (.int .u32 ya) := HN4.out.cell_ (i := 3) rfl
  have c4 : w4.cell? ⟨g, 4, none⟩ = some (.int .u32 oa) := HN4.out.cell_ (i := 4) rfl
  refine wp_region_held_drew (S := fun w' => w'.cell? ⟨g, 0, none⟩ = some (.int .i64 ka) ∧ w'.cell? ⟨g, 1, none⟩ = some (.int .i64 ca) ∧ w'.cell? ⟨g, 2, none⟩ = some (.int .u32 xa) ∧ w'.cell? ⟨g, 3, none⟩ = some (.int .u32 ya) ∧ w'.cell? ⟨g, 4, none⟩ = some (.int .u32 oa)) (by kernel_rfl) ⟨c0, c1, c2, c3, c4⟩ (fun hHeld => ?_)
  have HF5 := Lib.hid (HF4.out.keep (Only.refl Nil w4).drew)
  have HN5 := Lib.hid HN4.out.drew
  clear c0 c1 c2 c3 c4 HF4 HN4
  generalize w4.drew = w5 at *
  refine zk 0 rfl ?_
  refine zk 1 rfl ?_
  have n0 : w5.cell? ⟨B + 1 + 1, 0, none⟩ = some (.int .i64 0) := HF5.out.rn.cell_ (i := 0) rfl
  have m0 : w5.frozen? ⟨B + 1 + 1, 0, none⟩ = false := HF5.out.rn.frozen 0
  refine mcl 2 rfl (by kernel_rfl) (by rfl) (fun K hK => ?_)
  go_simp
  have HF6 := Lib.hid (HF5.out.setN 0)
  have HN6 := Lib.hid (HN5.out.far (p := ⟨B + 1 + 1, 0, none⟩) (by have := HG.out; show g ≠ B + 1 + 1; omega) (.int .i64 0))
  refine hK.out _ _ ⟨HN6.out.cell_ (i := 0) rfl, HN6.out.cell_ (i := 1) rfl, HN6.out.cell_ (i := 2) rfl, HN6.out.cell_ (i := 3) rfl, HN6.out.cell_ (i := 4) rfl⟩ (fun hHeld2 => ?_)
  clear hK K hHeld n0 m0 HF5 HN5
  generalize w5.setCell ⟨B + 1 + 1, 0, none⟩ (.int .i64 0) = w6 at *
  have c0 : w6.cell? ⟨B + 1 + 1 + 1, 0, none⟩ = some (.int .i64 0) := HF6.out.ra.cell_ (i := 0) rfl
  have c1 : w6.cell? ⟨B + 1 + 1 + 1, 1, none⟩ = some (.int .i64 0) := HF6.out.ra.cell_ (i := 1) rfl
  have c2 : w6.cell? ⟨B + 1 + 1 + 1, 2, none⟩ = some (.int .u32 0) := HF6.out.ra.cell_ (i := 2) rfl
  have c3 : w6.cell? ⟨B + 1 + 1 + 1, 3, none⟩ = some (.int .u32 0) := HF6.out.ra.cell_ (i := 3) rfl
  have c4 : w6.cell? ⟨B + 1 + 1 + 1, 4, none⟩ = some (.int .u32 0) := HF6.out.ra.cell_ (i := 4) rfl
  have g0 : w6.frozen? ⟨B + 1 + 1 + 1, 0, none⟩ = false := HF6.out.ra.frozen 0
  have g1 : w6.frozen? ⟨B + 1 + 1 + 1, 1, none⟩ = false := HF6.out.ra.frozen 1
  have g2 : w6.frozen? ⟨B + 1 + 1 + 1, 2, none⟩ = false := HF6.out.ra.frozen 2
  have g3 : w6.frozen? ⟨B + 1 + 1 + 1, 3, none⟩ = false := HF6.out.ra.frozen 3
  have g4 : w6.frozen? ⟨B + 1 + 1 + 1, 4, none⟩ = false := HF6.out.ra.frozen 4
  refine mcl 3 rfl (by kernel_rfl) (by rfl) (fun K hK => ?_)
  go_simp
  have HF7 := Lib.hid (HF6.out.setA (.int .i64 ka) (.int .i64 ca) (.int .u32 xa) (.int .u32 ya) (.int .u32 oa))
  have HN7 := Lib.hid (HN6.out.only (five_only (Only.refl (· = B + 1 + 1 + 1) w6) (g := B + 1 + 1 + 1) (.inr rfl) (.int .i64 ka) (.int .i64 ca) (.int .u32 xa) (.int .u32 ya) (.int .u32 oa)) (by have := HG.out; show ¬ g = B + 1 + 1 + 1; omega))
  refine hK.out _ _ ⟨HN7.out.cell_ (i := 0) rfl, HN7.out.cell_ (i := 1) rfl, HN7.out.cell_ (i := 2) rfl, HN7.out.cell_ (i := 3) rfl, HN7.out.cell_ (i := 4) rfl⟩ (fun hHeld3 => ?_)
  clear hK K hHeld2 c0 c1 c2 c3 c4 g0 g1 g2 g3 g4 HF6 HN6
  generalize (((((w6.setCell ⟨B + 1 + 1 + 1, 0, none⟩ (.int .i64 ka)).setCell ⟨B + 1 + 1 + 1, 1, none⟩ (.int .i64 ca)).setCell ⟨B + 1 + 1 + 1, 2, none⟩ (.int .u32 xa)).setCell ⟨B + 1 + 1 + 1, 3, none⟩ (.int .u32 ya)).setCell ⟨B + 1 + 1 + 1, 4, none⟩ (.int .u32 oa)) = w7 at *
  refine zk 4 rfl ?_
  refine zk 5 rfl ?_
  refine wpAnyH_done (by kernel_rfl) ?_ _
  clear hHeld3
  go_wp2
  refine post_two_tmps (P := Tryz.prog) Tryz.results74 (by rfl) HF7.out.rn Tryz.underlying25 rfl (by kernel_rfl) (by rfl) HF7.out.ra Tryz.underlying39 rfl (by kernel_rfl) rfl ⟨?_, HF7.out.only, HF7.out.own⟩
  rw [HV.out]; rfl
set_option maxHeartbeats 400000 in
theorem rstep_spin_no (base : Nat) (A : Option Addr) (l cp : Nat) (xs : List Int) (n mode i s c k m x : Int) (w : World) (h : Own w base A cp xs) (hn : xs.length = l) (hx : Words xs) (hm : ¬ mode = 2) (hb : uIs k m x (wordAt xs c) = false) :
    Calls Tryz.prog 74 #[.slice A l cp, .int .i64 n, .int .i64 mode, .int .i64 i, .agg #[.int .i64 s], .int .i64 c, .agg #[.int .i64 k, .int .u32 m, .int .u32 x]] w (RStepped base A cp ⟨0, doVal xs 1 c 0 0, false, false, xs⟩ w) := by
  have hm' : (mode != 2) = true := bne_iff_ne.2 hm
  have hm2 : (mode == 2) = false := beq_eq_false_iff_ne.2 hm
  have HB := Lib.hid hb
  clear hb
  have HF0 := Lib.hid (RF.start s k m x h)
  have HX := Lib.hid hx
  have HLN := Lib.hid hn
  clear h hx hn
  go_enter Tryz.func74, Tryz.ntmps74
  go_wp2_with fail
  generalize (((w.alloc (.cells #[.int .i64 s] 25)).alloc (.cells #[.int .i64 k, .int .u32 m, .int .u32 x] 79)).alloc (.cells #[.int .i64 0] 25)).alloc (.cells #[.int .i64 0, .int .i64 0, .int .u32 0, .int .u32 0, .int .u32 0] 39) = w1 at *
  generalize w.heap.size = B at *
  refine (refdo_any base A l cp xs 1 c 0 0 0 _ HF0.out.own HLN.out).mono ?_
  obtain ⟨ka, ca, xa, ya, hv⟩ := doVal_form xs 1 c 0 0
  rw [oldAt xs 1 c rfl] at hv
  rw [hv, doNew_load]
  rintro e w2 ⟨rfl, hO, hM⟩
  have HF1 := Lib.hid (HF0.out.call hO hM)
  have HV := Lib.hid hv
  have HBD := Lib.hid (word_wf HX.out c)
  clear hO hM hv HF0
  generalize wordAt xs c = oa at *
  generalize doOk xs 1 c = ok at *
  have HF2 := Lib.hid (HF1.out.keep ((Only.refl Nil w2).alloc (.cells #[.int .i64 ka, .int .i64 ca, .int .u32 xa, .int .u32 ya, .int .u32 oa] 39)))
  have HN := Lib.hid (Row.new w2 39 #[.int .i64 ka, .int .i64 ca, .int .u32 xa, .int .u32 ya, .int .u32 oa])
  have HG := Lib.hid (show B + 1 + 1 + 1 < w2.heap.size from HF1.out.ra.lt)
  have u0 : ∀ o, (w2.alloc o).cell? ⟨B + 1, 0, none⟩ = some (.int .i64 k) := fun o => (HF1.out.ru.alloc o).cell_ (i := 0) rfl
  have u1 : ∀ o, (w2.alloc o).cell? ⟨B + 1, 1, none⟩ = some (.int .u32 m) := fun o => (HF1.out.ru.alloc o).cell_ (i := 1) rfl
  have u2 : ∀ o, (w2.alloc o).cell? ⟨B + 1, 2, none⟩ = some (.int .u32 x) := fun o => (HF1.out.ru.alloc o).cell_ (i := 2) rfl
  go_wp2_with fail
  clear u0 u1 u2 HF1
  generalize w2.alloc (.cells #[.int .i64 ka, .int .i64 ca, .int .u32 xa, .int .u32 ya, .int .u32 oa] 39) = w3 at *
  generalize w2.heap.size = g at *
  refine (is_any k m x oa _ HBD.out.1 HBD.out.2).mono ?_
  rw [HB.out]
  rintro e w4 ⟨rfl, hO⟩
  have HF4 := Lib.hid (HF2.out.keep hO)
  have HN4 := Lib.hid (HN.out.only hO id)
  clear hO HF2 HN
  go_wp2_with fail
  have c0 : w4.cell? ⟨g, 0, none⟩ = some (.int .i64 ka) := HN4.out.cell_ (i := 0) rfl
  have c1 : w4.cell? ⟨g, 1, none⟩ = some (.int .i64 ca) := HN4.out.cell_ (i := 1) rfl
  have c2 : w4.cell? ⟨g, 2, none⟩ = some (.int .u32 xa) := HN4.out.cell_ (i := 2) rfl
  have c3 : w4.cell? ⟨g, 3, none⟩ = some (.int .u32 ya) := HN4.out.cell_ (i := 3) rfl
  have c4 : w4.cell? ⟨g, 4, none⟩ = some (.int .u32 oa) := HN4.out.cell_ (i := 4) rfl
  refine wp_region_held_drew (S := fun w' => w'.cell? ⟨g, 0, none⟩ = some (.int .i64 ka) ∧ w'.cell? ⟨g, 1, none⟩ = some (.int .i64 ca) ∧ w'.cell? ⟨g, 2, none⟩ = some (.int .u32 xa) ∧ w'.cell? ⟨g, 3, none⟩ = some (.int .u32 ya) ∧ w'.cell? ⟨g, 4, none⟩ = some (.int .u32 oa)) (by kernel_rfl) ⟨c0, c1, c2, c3, c4⟩ (fun hHeld => ?_)
  have HF5 := Lib.hid (HF4.out.keep (Only.refl Nil w4).drew)
  have HN5 := Lib.hid HN4.out.drew
  clear c0 c1 c2 c3 c4 HF4 HN4
  generalize w4.drew = w5 at *
  refine zk 0 rfl ?_
  refine zk 1 rfl ?_
  have n0 : w5.cell? ⟨B + 1 + 1, 0, none⟩ = some (.int .i64 0) := HF5.out.rn.cell_ (i := 0) rfl
  have m0 : w5.frozen? ⟨B + 1 + 1, 0, none⟩ = false := HF5.out.rn.frozen 0
  refine mcl 2 rfl (by kernel_rfl) (by rfl) (fun K hK => ?_)
  go_simp
  have HF6 := Lib.hid (HF5.out.setN 0)
  have HN6 := Lib.hid (HN5.out.far (p := ⟨B + 1 + 1, 0, none⟩) (by have := HG.out; show g ≠ B + 1 + 1; omega) (.int .i64 0))
  refine hK.out _ _ ⟨HN6.out.cell_ (i := 0) rfl, HN6.out.cell_ (i := 1) rfl, HN6.out.cell_ (i := 2) rfl, HN6.out.cell_ (i := 3) rfl, HN6.out.cell_ (i := 4) rfl⟩ (fun hHeld2 => ?_)
  clear hK K hHeld n0 m0 HF5 HN5
  generalize w5.setCell ⟨B + 1 + 1, 0, none⟩ (.int .i64 0) = w6 at *
  have c0 : w6.cell? ⟨B + 1 + 1 + 1, 0, none⟩ = some (.int .i64 0) := HF6.out.ra.cell_ (i := 0) rfl
  have c1 : w6.cell? ⟨B + 1 + 1 + 1, 1, none⟩ = some (.int .i64 0) := HF6.out.ra.cell_ (i := 1) rfl
  have c2 : w6.cell? ⟨B + 1 + 1 + 1, 2, none⟩ = some (.int .u32 0) := HF6.out.ra.cell_ (i := 2) rfl
  have c3 : w6.cell? ⟨B + 1 + 1 + 1, 3, none⟩ = some (.int .u32 0) := HF6.out.ra.cell_ (i := 3) rfl
  have c4 : w6.cell? ⟨B + 1 + 1 + 1, 4, none⟩ = some (.int .u32 0) := HF6.out.ra.cell_ (i := 4) rfl
  have g0 : w6.frozen? ⟨B + 1 + 1 + 1, 0, none⟩ = false := HF6.out.ra.frozen 0
  have g1 : w6.frozen? ⟨B + 1 + 1 + 1, 1, none⟩ = false := HF6.out.ra.frozen 1
  have g2 : w6.frozen? ⟨B + 1 + 1 + 1, 2, none⟩ = false := HF6.out.ra.frozen 2
  have g3 : w6.frozen? ⟨B + 1 + 1 + 1, 3, none⟩ = false := HF6.out.ra.frozen 3
  have g4 : w6.frozen? ⟨B + 1 + 1 + 1, 4, none⟩ = false := HF6.out.ra.frozen 4
  refine mcl 3 rfl (by kernel_rfl) (by rfl) (fun K hK => ?_)
  go_simp
  have HF7 := Lib.hid (HF6.out.setA (.int .i64 ka) (.int .i64 ca) (.int .u32 xa) (.int .u32 ya) (.int .u32 oa))
  have HN7 := Lib.hid (HN6.out.only (five_only (Only.refl (· = B + 1 + 1 + 1) w6) (g := B + 1 + 1 + 1) (.inr rfl) (.int .i64 ka) (.int .i64 ca) (.int .u32 xa) (.int .u32 ya) (.int .u32 oa)) (by have := HG.out; show ¬ g = B + 1 + 1 + 1; omega))
  refine hK.out _ _ ⟨HN7.out.cell_ (i := 0) rfl, HN7.out.cell_ (i := 1) rfl, HN7.out.cell_ (i := 2) rfl, HN7.out.cell_ (i := 3) rfl, HN7.out.cell_ (i := 4) rfl⟩ (fun hHeld3 => ?_)
  clear hK K hHeld2 c0 c1 c2 c3 c4 g0 g1 g2 g3 g4 HF6 HN6
  generalize (((((w6.setCell ⟨B + 1 + 1 + 1, 0, none⟩ (.int .i64 ka)).setCell ⟨B + 1 + 1 + 1, 1, none⟩ (.int .i64 ca)).setCell ⟨B + 1 + 1 + 1, 2, none⟩ (.int .u32 xa)).setCell ⟨B + 1 + 1 + 1, 3, none⟩ (.int .u32 ya)).setCell ⟨B + 1 + 1 + 1, 4, none⟩ (.int .u32 oa)) = w7 at *
  refine zk 4 rfl ?_
  refine zk 5 rfl ?_
  refine wpAnyH_done (by kernel_rfl) ?_ _
  clear hHeld3
  go_wp2
  refine post_two_tmps (P := Tryz.prog) Tryz.results74 (by rfl) HF7.out.rn Tryz.underlying25 rfl (by kernel_rfl) (by rfl) HF7.out.ra Tryz.underlying39 rfl (by kernel_rfl) rfl ⟨?_, HF7.out.only, HF7.out.own⟩
  rw [HV.out]; rfl
set_option maxHeartbeats 400000 in
theorem rstep_low_yes (base : Nat) (A : Option Addr) (l cp : Nat) (xs : List Int) (n i s c k m x : Int) (w : World) (h : Own w base A cp xs) (hn : xs.length = l) (hx : Words xs) (hs : s < 0) (hb : uIs k m x (wordAt xs c) = true) :
    Calls Tryz.prog 74 #[.slice A l cp, .int .i64 n, .int .i64 2, .int .i64 i, .agg #[.int .i64 s], .int .i64 c, .agg #[.int .i64 k, .int .u32 m, .int .u32 x]] w (RStepped base A cp ⟨0, doVal xs 1 c 0 0, true, true, xs⟩ w) := by
  have hs' : decide (s < 0) = true := decide_eq_true hs
  have HB := Lib.hid hb
  clear hb
  have HF0 := Lib.hid (RF.start s k m x h)
  have HX := Lib.hid hx
  have HLN := Lib.hid hn
  clear h hx hn
  go_enter Tryz.func74, Tryz.ntmps74
  go_wp2_with fail
  generalize (((w.alloc (.cells #[.int .i64 s] 25)).alloc (.cells #[.int .i64 k, .int .u32 m, .int .u32 x] 79)).alloc (.cells #[.int .i64 0] 25)).alloc (.cells #[.int .i64 0, .int .i64 0, .int .u32 0, .int .u32 0, .int .u32 0] 39) = w1 at *
  generalize w.heap.size = B at *
  refine (refdo_any base A l cp xs 1 c 0 0 0 _ HF0.out.own HLN.out).mono ?_
  obtain ⟨ka, ca, xa, ya, hv⟩ := doVal_form xs 1 c 0 0
  rw [oldAt xs 1 c rfl] at hv
  rw [hv, doNew_load]
  rintro e w2 ⟨rfl, hO, hM⟩
  have HF1 := Lib.hid (HF0.out.call hO hM)
  have HV := Lib.hid hv
  have HBD := Lib.hid (word_wf HX.out c)
  clear hO hM hv HF0
  generalize wordAt xs c = oa at *
  generalize doOk xs 1 c = ok at *
  have HF2 := Lib.hid (HF1.out.keep ((Only.refl Nil w2).alloc (.cells #[.int .i64 ka, .int .i64 ca, .int .u32 xa, .int .u32 ya, .int .u32 oa] 39)))
  have HN := Lib.hid (Row.new w2 39 #[.int .i64 ka, .int .i64 ca, .int .u32 xa, .int .u32 ya, .int .u32 oa])
  have HG := Lib.hid (show B + 1 + 1 + 1 < w2.heap.size from HF1.out.ra.lt)
  have u0 : ∀ o, (w2.alloc o).cell? ⟨B + 1, 0, none⟩ = some (.int .i64 k) := fun o => (HF1.out.ru.alloc o).cell_ (i := 0) rfl
  have u1 : ∀ o, (w2.alloc o).cell? ⟨B + 1, 1, none⟩ = some (.int .u32 m) := fun o => (HF1.out.ru.alloc o).cell_ (i := 1) rfl
  have u2 : ∀ o, (w2.alloc o).cell? ⟨B + 1, 2, none⟩ = some (.int .u32 x) := fun o => (HF1.out.ru.alloc o).cell_ (i := 2) rfl
  go_wp2_with fail
  clear u0 u1 u2 HF1
  generalize w2.alloc (.cells #[.int .i64 ka, .int .i64 ca, .int .u32 xa, .int .u32 ya, .int .u32 oa] 39) = w3 at *
  generalize w2.heap.size = g at *
  refine (is_any k m x oa _ HBD.out.1 HBD.out.2).mono ?_
  rw [HB.out]
  rintro e w4 ⟨rfl, hO⟩
  have HF4 := Lib.hid (HF2.out.keep hO)
  have HN4 := Lib.hid (HN.out.only hO id)
  clear hO HF2 HN
  go_wp2_with fail
  have c0 : w4.cell? ⟨g, 0, none⟩ = some (.int .i64 ka) := HN4.out.cell_ (i := 0) rfl
  have c1 : w4.cell? ⟨g, 1, none⟩ = some (.int .i64 ca) := HN4.out.cell_ (i := 1) rfl
  have c2 : w4.cell? ⟨g, 2, none⟩ = some (.int .u32 xa) := HN4.out.cell_ (i := 2) rfl
  have c3 : w4.cell? ⟨g, 3, none⟩ = some (.int .u32 ya) := HN4.out.cell_ (i := 3) rfl
  have c4 : w4.cell? ⟨g, 4, none⟩ = some (.int .u32 oa) := HN4.out.cell_ (i := 4) rfl
  refine wp_region_held_drew (S := fun w' => w'.cell? ⟨g, 0, none⟩ = some (.int .i64 ka) ∧ w'.cell? ⟨g, 1, none⟩ = some (.int .i64 ca) ∧ w'.cell? ⟨g, 2, none⟩ = some (.int .u32 xa) ∧ w'.cell? ⟨g, 3, none⟩ = some (.int .u32 ya) ∧ w'.cell? ⟨g, 4, none⟩ = some (.int .u32 oa)) (by kernel_rfl) ⟨c0, c1, c2, c3, c4⟩ (fun hHeld => ?_)
  have HF5 := Lib.hid (HF4.out.keep (Only.refl Nil w4).drew)
  have HN5 := Lib.hid HN4.out.drew
  clear c0 c1 c2 c3 c4 HF4 HN4
  generalize w4.drew = w5 at *
  refine zk 0 rfl ?_
  refine zk 1 rfl ?_
  have n0 : w5.cell? ⟨B + 1 + 1, 0, none⟩ = some (.int .i64 0) := HF5.out.rn.cell_ (i := 0) rfl
  have m0 : w5.frozen? ⟨B + 1 + 1, 0, none⟩ = false := HF5.out.rn.frozen 0
  refine mcl 2 rfl (by kernel_rfl) (by rfl) (fun K hK => ?_)
  go_simp
  have HF6 := Lib.hid (HF5.out.setN 0)
  have HN6 := Lib.hid (HN5.out.far (p := ⟨B + 1 + 1, 0, none⟩) (by have := HG.out; show g ≠ B + 1 + 1; omega) (.int .i64 0))
  refine hK.out _ _ ⟨HN6.out.cell_ (i := 0) rfl, HN6.out.cell_ (i := 1) rfl, HN6.out.cell_ (i := 2) rfl, HN6.out.cell_ (i := 3) rfl, HN6.out.cell_ (i := 4) rfl⟩ (fun hHeld2 => ?_)
  clear hK K hHeld n0 m0 HF5 HN5
  generalize w5.setCell ⟨B + 1 + 1, 0, none⟩ (.int .i64 0) = w6 at *
  have c0 : w6.cell? ⟨B + 1 + 1 + 1, 0, none⟩ = some (.int .i64 0) := HF6.out.ra.cell_ (i := 0) rfl
  have c1 : w6.cell? ⟨B + 1 + 1 + 1, 1, none⟩ = some (.int .i64 0) := HF6.out.ra.cell_ (i := 1) rfl
  have c2 : w6.cell? ⟨B + 1 + 1 + 1, 2, none⟩ = some (.int .u32 0) := HF6.out.ra.cell_ (i := 2) rfl
  have c3 : w6.cell? ⟨B + 1 + 1 + 1, 3, none⟩ = some (.int .u32 0) := HF6.out.ra.cell_ (i := 3) rfl
  have c4 : w6.cell? ⟨B + 1 + 1 + 1, 4, none⟩ = some (.int .u32 0) := HF6.out.ra.cell_ (i := 4) rfl
  have g0 : w6.frozen? ⟨B + 1 + 1 + 1, 0, none⟩ = false := HF6.out.ra.frozen 0
  have g1 : w6.frozen? ⟨B + 1 + 1 + 1, 1, none⟩ = false := HF6.out.ra.frozen 1
  have g2 : w6.frozen? ⟨B + 1 + 1 + 1, 2, none⟩ = false := HF6.out.ra.frozen 2
  have g3 : w6.frozen? ⟨B + 1 + 1 + 1, 3, none⟩ = false := HF6.out.ra.frozen 3
  have g4 : w6.frozen? ⟨B + 1 + 1 + 1, 4, none⟩ = false := HF6.out.ra.frozen 4
  refine mcl 3 rfl (by kernel_rfl) (by rfl) (fun K hK => ?_)
  go_simp
  have HF7 := Lib.hid (HF6.out.setA (.int .i64 ka) (.int .i64 ca) (.int .u32 xa) (.int .u32 ya) (.int .u32 oa))
  have HN7 := Lib.hid (HN6.out.only (five_only (Only.refl (· = B + 1 + 1 + 1) w6) (g := B + 1 + 1 + 1) (.inr rfl) (.int .i64 ka) (.int .i64 ca) (.int .u32 xa) (.int .u32 ya) (.int .u32 oa)) (by have := HG.out; show ¬ g = B + 1 + 1 + 1; omega))
  refine hK.out _ _ ⟨HN7.out.cell_ (i := 0) rfl, HN7.out.cell_ (i := 1) rfl, HN7.out.cell_ (i := 2) rfl, HN7.out.cell_ (i := 3) rfl, HN7.out.cell_ (i := 4) rfl⟩ (fun hHeld3 => ?_)
  clear hK K hHeld2 c0 c1 c2 c3 c4 g0 g1 g2 g3 g4 HF6 HN6
  generalize (((((w6.setCell ⟨B + 1 + 1 + 1, 0, none⟩ (.int .i64 ka)).setCell ⟨B + 1 + 1 + 1, 1, none⟩ (.int .i64 ca)).setCell ⟨B + 1 + 1 + 1, 2, none⟩ (.int .u32 xa)).setCell ⟨B + 1 + 1 + 1, 3, none⟩ (.int .u32 ya)).setCell ⟨B + 1 + 1 + 1, 4, none⟩ (.int .u32 oa)) = w7 at *
  refine zk 4 rfl ?_
  refine zk 5 rfl ?_
  refine wpAnyH_done (by kernel_rfl) ?_ _
  clear hHeld3
  go_wp2
  refine post_two_tmps (P := Tryz.prog) Tryz.results74 (by rfl) HF7.out.rn Tryz.underlying25 rfl (by kernel_rfl) (by rfl) HF7.out.ra Tryz.underlying39 rfl (by kernel_rfl) rfl ⟨?_, HF7.out.only, HF7.out.own⟩
  rw [HV.out]; rfl
set_option maxHeartbeats 400000 in
theorem rstep_high_yes (base : Nat) (A : Option Addr) (l cp : Nat) (xs : List Int) (n i s c k m x : Int) (w : World) (h : Own w base A cp xs) (hn : xs.length = l) (hx : Words xs) (hs : 4 < s) (hb : uIs k m x (wordAt xs c) = true) :
    Calls Tryz.prog 74 #[.slice A l cp, .int .i64 n, .int .i64 2, .int .i64 i, .agg #[.int .i64 s], .int .i64 c, .agg #[.int .i64 k, .int .u32 m, .int .u32 x]] w (RStepped base A cp ⟨0, doVal xs 1 c 0 0, true, true, xs⟩ w) := by
  have hs' : decide (s < 0) = false := decide_eq_false (by omega)
  have hs2 : decide (4 < s) = true := decide_eq_true hs
  have HB := Lib.hid hb
  clear hb
  have HF0 := Lib.hid (RF.start s k m x h)
  have HX := Lib.hid hx
  have HLN := Lib.hid hn
  clear h hx hn
  go_enter Tryz.func74, Tryz.ntmps74
  go_wp2_with fail
  generalize (((w.alloc (.cells #[.int .i64 s] 25)).alloc (.cells #[.int .i64 k, .int .u32 m, .int .u32 x] 79)).alloc (.cells #[.int .i64 0] 25)).alloc (.cells #[.int .i64 0, .int .i64 0, .int .u32 0, .int .u32 0, .int .u32 0] 39) = w1 at *
  generalize w.heap.size = B at *
  refine (refdo_any base A l cp xs 1 c 0 0 0 _ HF0.out.own HLN.out).mono ?_
  obtain ⟨ka, ca, xa, ya, hv⟩ := doVal_form xs 1 c 0 0
  rw [oldAt xs 1 c rfl] at hv
  rw [hv, doNew_load]
  rintro e w2 ⟨rfl, hO, hM⟩
  have HF1 := Lib.hid (HF0.out.call hO hM)
  have HV := Lib.hid hv
  have HBD := Lib.hid (word_wf HX.out c)
  clear hO hM hv HF0
  generalize wordAt xs c = oa at *
  generalize doOk xs 1 c = ok at *
  have HF2 := Lib.hid (HF1.out.keep ((Only.refl Nil w2).alloc (.cells #[.int .i64 ka, .int .i64 ca, .int .u32 xa, .int .u32 ya, .int .u32 oa] 39)))
  have HN := Lib.hid (Row.new w2 39 #[.int .i64 ka, .int .i64 ca, .int .u32 xa, .int .u32 ya, .int .u32 oa])
  have HG := Lib.hid (show B + 1 + 1 + 1 < w2.heap.size from HF1.out.ra.lt)
  have u0 : ∀ o, (w2.alloc o).cell? ⟨B + 1, 0, none⟩ = some (.int .i64 k) := fun o => (HF1.out.ru.alloc o).cell_ (i := 0) rfl
  have u1 : ∀ o, (w2.alloc o).cell? ⟨B + 1, 1, none⟩ = some (.int .u32 m) := fun o => (HF1.out.ru.alloc o).cell_ (i := 1) rfl
  have u2 : ∀ o, (w2.alloc o).cell? ⟨B + 1, 2, none⟩ = some (.int .u32 x) := fun o => (HF1.out.ru.alloc o).cell_ (i := 2) rfl
  go_wp2_with fail
  clear u0 u1 u2 HF1
  generalize w2.alloc (.cells #[.int .i64 ka, .int .i64 ca, .int .u32 xa, .int .u32 ya, .int .u32 oa] 39) = w3 at *
  generalize w2.heap.size = g at *
  refine (is_any k m x oa _ HBD.out.1 HBD.out.2).mono ?_
  rw [HB.out]
  rintro e w4 ⟨rfl, hO⟩
  have HF4 := Lib.hid (HF2.out.keep hO)
  have HN4 := Lib.hid (HN.out.only hO id)
  clear hO HF2 HN
  go_wp2_with fail
  have c0 : w4.cell? ⟨g, 0, none⟩ = some (.int .i64 ka) := HN4.out.cell_ (i := 0) rfl
  have c1 : w4.cell? ⟨g, 1, none⟩ = some (.int .i64 ca) := HN4.out.cell_ (i := 1) rfl
  have c2 : w4.cell? ⟨g, 2, none⟩ = some (.int .u32 xa) := HN4.out.cell_ (i := 2) rfl
  have c3 : w4.cell? ⟨g, 3, none⟩ = some (.int .u32 ya) := HN4.out.cell_ (i := 3) rfl
  have c4 : w4.cell? ⟨g, 4, none⟩ = some (.int .u32 oa) := HN4.out.cell_ (i := 4) rfl
  refine wp_region_held_drew (S := fun w' => w'.cell? ⟨g, 0, none⟩ = some (.int .i64 ka) ∧ w'.cell? ⟨g, 1, none⟩ = some (.int .i64 ca) ∧ w'.cell? ⟨g, 2, none⟩ = some (.int .u32 xa) ∧ w'.cell? ⟨g, 3, none⟩ = some (.int .u32 ya) ∧ w'.cell? ⟨g, 4, none⟩ = some (.int .u32 oa)) (by kernel_rfl) ⟨c0, c1, c2, c3, c4⟩ (fun hHeld => ?_)
  have HF5 := Lib.hid (HF4.out.keep (Only.refl Nil w4).drew)
  have HN5 := Lib.hid HN4.out.drew
  clear c0 c1 c2 c3 c4 HF4 HN4
  generalize w4.drew = w5 at *
  refine zk 0 rfl ?_
  refine zk 1 rfl ?_
  have n0 : w5.cell? ⟨B + 1 + 1, 0, none⟩ = some (.int .i64 0) := HF5.out.rn.cell_ (i := 0) rfl
  have m0 : w5.frozen? ⟨B + 1 + 1, 0, none⟩ = false := HF5.out.rn.frozen 0
  refine mcl 2 rfl (by kernel_rfl) (by rfl) (fun K hK => ?_)
  go_simp
  have HF6 := Lib.hid (HF5.out.setN 0)
  have HN6 := Lib.hid (HN5.out.far (p := ⟨B + 1 + 1, 0, none⟩) (by have := HG.out; show g ≠ B + 1 + 1; omega) (.int .i64 0))
  refine hK.out _ _ ⟨HN6.out.cell_ (i := 0) rfl, HN6.out.cell_ (i := 1) rfl, HN6.out.cell_ (i := 2) rfl, HN6.out.cell_ (i := 3) rfl, HN6.out.cell_ (i := 4) rfl⟩ (fun hHeld2 => ?_)
  clear hK K hHeld n0 m0 HF5 HN5
  generalize w5.setCell ⟨B + 1 + 1, 0, none⟩ (.int .i64 0) = w6 at *
  have c0 : w6.cell? ⟨B + 1 + 1 + 1, 0, none⟩ = some (.int .i64 0) := HF6.out.ra.cell_ (i := 0) rfl
  have c1 : w6.cell? ⟨B + 1 + 1 + 1, 1, none⟩ = some (.int .i64 0) := HF6.out.ra.cell_ (i := 1) rfl
  have c2 : w6.cell? ⟨B + 1 + 1 + 1, 2, none⟩ = some (.int .u32 0) := HF6.out.ra.cell_ (i := 2) rfl
  have c3 : w6.cell? ⟨B + 1 + 1 + 1, 3, none⟩ = some (.int .u32 0) := HF6.out.ra.cell_ (i := 3) rfl
  have c4 : w6.cell? ⟨B + 1 + 1 + 1, 4, none⟩ = some (.int .u32 0) := HF6.out.ra.cell_ (i := 4) rfl
  have g0 : w6.frozen? ⟨B + 1 + 1 + 1, 0, none⟩ = false := HF6.out.ra.frozen 0
  have g1 : w6.frozen? ⟨B + 1 + 1 + 1, 1, none⟩ = false := HF6.out.ra.frozen 1
  have g2 : w6.frozen? ⟨B + 1 + 1 + 1, 2, none⟩ = false := HF6.out.ra.frozen 2
  have g3 : w6.frozen? ⟨B + 1 + 1 + 1, 3, none⟩ = false := HF6.out.ra.frozen 3
  have g4 : w6.frozen? ⟨B + 1 + 1 + 1, 4, none⟩ = false := HF6.out.ra.frozen 4
  refine mcl 3 rfl (by kernel_rfl) (by rfl) (fun K hK => ?_)
  go_simp
  have HF7 := Lib.hid (HF6.out.setA (.int .i64 ka) (.int .i64 ca) (.int .u32 xa) (.int .u32 ya) (.int .u32 oa))
  have HN7 := Lib.hid (HN6.out.only (five_only (Only.refl (· = B + 1 + 1 + 1) w6) (g := B + 1 + 1 + 1) (.inr rfl) (.int .i64 ka) (.int .i64 ca) (.int .u32 xa) (.int .u32 ya) (.int .u32 oa)) (by have := HG.out; show ¬ g = B + 1 + 1 + 1; omega))
  refine hK.out _ _ ⟨HN7.out.cell_ (i := 0) rfl, HN7.out.cell_ (i := 1) rfl, HN7.out.cell_ (i := 2) rfl, HN7.out.cell_ (i := 3) rfl, HN7.out.cell_ (i := 4) rfl⟩ (fun hHeld3 => ?_)
  clear hK K hHeld2 c0 c1 c2 c3 c4 g0 g1 g2 g3 g4 HF6 HN6
  generalize (((((w6.setCell ⟨B + 1 + 1 + 1, 0, none⟩ (.int .i64 ka)).setCell ⟨B + 1 + 1 + 1, 1, none⟩ (.int .i64 ca)).setCell ⟨B + 1 + 1 + 1, 2, none⟩ (.int .u32 xa)).setCell ⟨B + 1 + 1 + 1, 3, none⟩ (.int .u32 ya)).setCell ⟨B + 1 + 1 + 1, 4, none⟩ (.int .u32 oa)) = w7 at *
  refine zk 4 rfl ?_
  refine zk 5 rfl ?_
  refine wpAnyH_done (by kernel_rfl) ?_ _
  clear hHeld3
  go_wp2
  refine post_two_tmps (P := Tryz.prog) Tryz.results74 (by rfl) HF7.out.rn Tryz.underlying25 rfl (by kernel_rfl) (by rfl) HF7.out.ra Tryz.underlying39 rfl (by kernel_rfl) rfl ⟨?_, HF7.out.only, HF7.out.own⟩
  rw [HV.out]; rfl
set_option maxHeartbeats 400000 in
theorem rstep_zero_yes (base : Nat) (A : Option Addr) (l cp : Nat) (xs : List Int) (n i c k m x : Int) (w : World) (h : Own w base A cp xs) (hn : xs.length = l) (hx : Words xs) (hb : uIs k m x (wordAt xs c) = true) :
    Calls Tryz.prog 74 #[.slice A l cp, .int .i64 n, .int .i64 2, .int .i64 i, .agg #[.int .i64 0], .int .i64 c, .agg #[.int .i64 k, .int .u32 m, .int .u32 x]] w (RStepped base A cp ⟨0, doVal xs 1 c 0 0, true, true, xs⟩ w) := by
  have HB := Lib.hid hb
  clear hb
  have HF0 := Lib.hid (RF.start 0 k m x h)
  have HX := Lib.hid hx
  have HLN := Lib.hid hn
  clear h hx hn
  go_enter Tryz.func74, Tryz.ntmps74
  go_wp2_with fail
  generalize (((w.alloc (.cells #[.int .i64 0] 25)).alloc (.cells #[.int .i64 k, .int .u32 m, .int .u32 x] 79)).alloc (.cells #[.int .i64 0] 25)).alloc (.cells #[.int .i64 0, .int .i64 0, .int .u32 0, .int .u32 0, .int .u32 0] 39) = w1 at *
  generalize w.heap.size = B at *
  refine (refdo_any base A l cp xs 1 c 0 0 0 _ HF0.out.own HLN.out).mono ?_
  obtain ⟨ka, ca, xa, ya, hv⟩ := doVal_form xs 1 c 0 0
  rw [oldAt xs 1 c rfl] at hv
  rw [hv, doNew_load]
  rintro e w2 ⟨rfl, hO, hM⟩
  have HF1 := Lib.hid (HF0.out.call hO hM)
  have HV := Lib.hid hv
  have HBD := Lib.hid (word_wf HX.out c)
  clear hO hM hv HF0
  generalize wordAt xs c = oa at *
  generalize doOk xs 1 c = ok at *
  have HF2 := Lib.hid (HF1.out.keep ((Only.refl Nil w2).alloc (.cells #[.int .i64 ka, .int .i64 ca, .int .u32 xa, .int .u32 ya, .int .u32 oa] 39)))
  have HN := Lib.hid (Row.new w2 39 #[.int .i64 ka, .int .i64 ca, .int .u32 xa, .int .u32 ya, .int .u32 oa])
  have HG := Lib.hid (show B + 1 + 1 + 1 < w2.heap.size from HF1.out.ra.lt)
  have u0 : ∀ o, (w2.alloc o).cell? ⟨B + 1, 0, none⟩ = some (.int .i64 k) := fun o => (HF1.out.ru.alloc o).cell_ (i := 0) rfl
  have u1 : ∀ o, (w2.alloc o).cell? ⟨B + 1, 1, none⟩ = some (.int .u32 m) := fun o => (HF1.out.ru.alloc o).cell_ (i := 1) rfl
  have u2 : ∀ o, (w2.alloc o).cell? ⟨B + 1, 2, none⟩ = some (.int .u32 x) := fun o => (HF1.out.ru.alloc o).cell_ (i := 2) rfl
  go_wp2_with fail
  clear u0 u1 u2 HF1
  generalize w2.alloc (.cells #[.int .i64 ka, .int .i64 ca, .int .u32 xa, .int .u32 ya, .int .u32 oa] 39) = w3 at *
  generalize w2.heap.size = g at *
  refine (is_any k m x oa _ HBD.out.1 HBD.out.2).mono ?_
  rw [HB.out]
  rintro e w4 ⟨rfl, hO⟩
  have HF4 := Lib.hid (HF2.out.keep hO)
  have HN4 := Lib.hid (HN.out.only hO id)
  clear hO HF2 HN
  go_wp2_with fail
  have c0 : w4.cell? ⟨g, 0, none⟩ = some (.int .i64 ka) := HN4.out.cell_ (i := 0) rfl
  have c1 : w4.cell? ⟨g, 1, none⟩ = some (.int .i64 ca) := HN4.out.cell_ (i := 1) rfl
  have c2 : w4.cell? ⟨g, 2, none⟩ = some (.int .u32 xa) := HN4.out.cell_ (i := 2) rfl
  have c3 : w4.cell? ⟨g, 3, none⟩ = some (.int .u32 ya) := HN4.out.cell_ (i := 3) rfl
  have c4 : w4.cell? ⟨g, 4, none⟩ = some (.int .u32 oa) := HN4.out.cell_ (i := 4) rfl
  refine wp_region_held_drew (S := fun w' => w'.cell? ⟨g, 0, none⟩ = some (.int .i64 ka) ∧ w'.cell? ⟨g, 1, none⟩ = some (.int .i64 ca) ∧ w'.cell? ⟨g, 2, none⟩ = some (.int .u32 xa) ∧ w'.cell? ⟨g, 3, none⟩ = some (.int .u32 ya) ∧ w'.cell? ⟨g, 4, none⟩ = some (.int .u32 oa)) (by kernel_rfl) ⟨c0, c1, c2, c3, c4⟩ (fun hHeld => ?_)
  have HF5 := Lib.hid (HF4.out.keep (Only.refl Nil w4).drew)
  have HN5 := Lib.hid HN4.out.drew
  clear c0 c1 c2 c3 c4 HF4 HN4
  generalize w4.drew = w5 at *
  refine zk 0 rfl ?_
  refine zk 1 rfl ?_
  have n0 : w5.cell? ⟨B + 1 + 1, 0, none⟩ = some (.int .i64 0) := HF5.out.rn.cell_ (i := 0) rfl
  have m0 : w5.frozen? ⟨B + 1 + 1, 0, none⟩ = false := HF5.out.rn.frozen 0
  refine mcl 2 rfl (by kernel_rfl) (by rfl) (fun K hK => ?_)
  go_simp
  have HF6 := Lib.hid (HF5.out.setN 0)
  have HN6 := Lib.hid (HN5.out.far (p := ⟨B + 1 + 1, 0, none⟩) (by have := HG.out; show g ≠ B + 1 + 1; omega) (.int .i64 0))
  refine hK.out _ _ ⟨HN6.out.cell_ (i := 0) rfl, HN6.out.cell_ (i := 1) rfl, HN6.out.cell_ (i := 2) rfl, HN6.out.cell_ (i := 3) rfl, HN6.out.cell_ (i := 4) rfl⟩ (fun hHeld2 => ?_)
  clear hK K hHeld n0 m0 HF5 HN5
  generalize w5.setCell ⟨B + 1 + 1, 0, none⟩ (.int .i64 0) = w6 at *
  have c0 : w6.cell? ⟨B + 1 + 1 + 1, 0, none⟩ = some (.int .i64 0) := HF6.out.ra.cell_ (i := 0) rfl
  have c1 : w6.cell? ⟨B + 1 + 1 + 1, 1, none⟩ = some (.int .i64 0) := HF6.out.ra.cell_ (i := 1) rfl
  have c2 : w6.cell? ⟨B + 1 + 1 + 1, 2, none⟩ = some (.int .u32 0) := HF6.out.ra.cell_ (i := 2) rfl
  have c3 : w6.cell? ⟨B + 1 + 1 + 1, 3, none⟩ = some (.int .u32 0) := HF6.out.ra.cell_ (i := 3) rfl
  have c4 : w6.cell? ⟨B + 1 + 1 + 1, 4, none⟩ = some (.int .u32 0) := HF6.out.ra.cell_ (i := 4) rfl
  have g0 : w6.frozen? ⟨B + 1 + 1 + 1, 0, none⟩ = false := HF6.out.ra.frozen 0
  have g1 : w6.frozen? ⟨B + 1 + 1 + 1, 1, none⟩ = false := HF6.out.ra.frozen 1
  have g2 : w6.frozen? ⟨B + 1 + 1 + 1, 2, none⟩ = false := HF6.out.ra.frozen 2
  have g3 : w6.frozen? ⟨B + 1 + 1 + 1, 3, none⟩ = false := HF6.out.ra.frozen 3
  have g4 : w6.frozen? ⟨B + 1 + 1 + 1, 4, none⟩ = false := HF6.out.ra.frozen 4
  refine mcl 3 rfl (by kernel_rfl) (by rfl) (fun K hK => ?_)
  go_simp
  have HF7 := Lib.hid (HF6.out.setA (.int .i64 ka) (.int .i64 ca) (.int .u32 xa) (.int .u32 ya) (.int .u32 oa))
  have HN7 := Lib.hid (HN6.out.only (five_only (Only.refl (· = B + 1 + 1 + 1) w6) (g := B + 1 + 1 + 1) (.inr rfl) (.int .i64 ka) (.int .i64 ca) (.int .u32 xa) (.int .u32 ya) (.int .u32 oa)) (by have := HG.out; show ¬ g = B + 1 + 1 + 1; omega))
  refine hK.out _ _ ⟨HN7.out.cell_ (i := 0) rfl, HN7.out.cell_ (i := 1) rfl, HN7.out.cell_ (i := 2) rfl, HN7.out.cell_ (i := 3) rfl, HN7.out.cell_ (i := 4) rfl⟩ (fun hHeld3 => ?_)
  clear hK K hHeld2 c0 c1 c2 c3 c4 g0 g1 g2 g3 g4 HF6 HN6
  generalize (((((w6.setCell ⟨B + 1 + 1 + 1, 0, none⟩ (.int .i64 ka)).setCell ⟨B + 1 + 1 + 1, 1, none⟩ (.int .i64 ca)).setCell ⟨B + 1 + 1 + 1, 2, none⟩ (.int .u32 xa)).setCell ⟨B + 1 + 1 + 1, 3, none⟩ (.int .u32 ya)).setCell ⟨B + 1 + 1 + 1, 4, none⟩ (.int .u32 oa)) = w7 at *
  refine zk 4 rfl ?_
  refine zk 5 rfl ?_
  refine wpAnyH_done (by kernel_rfl) ?_ _
  clear hHeld3
  go_wp2
  refine post_two_tmps (P := Tryz.prog) Tryz.results74 (by rfl) HF7.out.rn Tryz.underlying25 rfl (by kernel_rfl) (by rfl) HF7.out.ra Tryz.underlying39 rfl (by kernel_rfl) rfl ⟨?_, HF7.out.only, HF7.out.own⟩
  rw [HV.out]; rfl
set_option maxHeartbeats 400000 in
theorem rstep_low_no (base : Nat) (A : Option Addr) (l cp : Nat) (xs : List Int) (n i s c k m x : Int) (w : World) (h : Own w base A cp xs) (hn : xs.length = l) (hx : Words xs) (hs : s < 0) (hb : uIs k m x (wordAt xs c) = false) :
    Calls Tryz.prog 74 #[.slice A l cp, .int .i64 n, .int .i64 2, .int .i64 i, .agg #[.int .i64 s], .int .i64 c, .agg #[.int .i64 k, .int .u32 m, .int .u32 x]] w (RStepped base A cp ⟨1, doVal xs 1 c 0 0, false, false, xs⟩ w) := by
  have hs' : decide (s < 0) = true := decide_eq_true hs
  have HB := Lib.hid hb
  clear hb
  have HF0 := Lib.hid (RF.start s k m x h)
  have HX := Lib.hid hx
  have HLN := Lib.hid hn
  clear h hx hn
  go_enter Tryz.func74, Tryz.ntmps74
  go_wp2_with fail
  generalize (((w.alloc (.cells #[.int .i64 s] 25)).alloc (.cells #[.int .i64 k, .int .u32 m, .int .u32 x] 79)).alloc (.cells #[.int .i64 0] 25)).alloc (.cells #[.int .i64 0, .int .i64 0, .int .u32 0, .int .u32 0, .int .u32 0] 39) = w1 at *
  generalize w.heap.size = B at *
  refine (refdo_any base A l cp xs 1 c 0 0 0 _ HF0.out.own HLN.out).mono ?_
  obtain ⟨ka, ca, xa, ya, hv⟩ := doVal_form xs 1 c 0 0
  rw [oldAt xs 1 c rfl] at hv
  rw [hv, doNew_load]
  rintro e w2 ⟨rfl, hO, hM⟩
  have HF1 := Lib.hid (HF0.out.call hO hM)
  have HV := Lib.hid hv
  have HBD := Lib.hid (word_wf HX.out c)
  clear hO hM hv HF0
  generalize wordAt xs c = oa at *
  generalize doOk xs 1 c = ok at *
  have HF2 := Lib.hid (HF1.out.keep ((Only.refl Nil w2).alloc (.cells #[.int .i64 ka, .int .i64 ca, .int .u32 xa, .int .u32 ya, .int .u32 oa] 39)))
  have HN := Lib.hid (Row.new w2 39 #[.int .i64 ka, .int .i64 ca, .int .u32 xa, .int .u32 ya, .int .u32 oa])
  have HG := Lib.hid (show B + 1 + 1 + 1 < w2.heap.size from HF1.out.ra.lt)
  have u0 : ∀ o, (w2.alloc o).cell? ⟨B + 1, 0, none⟩ = some (.int .i64 k) := fun o => (HF1.out.ru.alloc o).cell_ (i := 0) rfl
  have u1 : ∀ o, (w2.alloc o).cell? ⟨B + 1, 1, none⟩ = some (.int .u32 m) := fun o => (HF1.out.ru.alloc o).cell_ (i := 1) rfl
  have u2 : ∀ o, (w2.alloc o).cell? ⟨B + 1, 2, none⟩ = some (.int .u32 x) := fun o => (HF1.out.ru.alloc o).cell_ (i := 2) rfl
  go_wp2_with fail
  clear u0 u1 u2 HF1
  generalize w2.alloc (.cells #[.int .i64 ka, .int .i64 ca, .int .u32 xa, .int .u32 ya, .int .u32 oa] 39) = w3 at *
  generalize w2.heap.size = g at *
  refine (is_any k m x oa _ HBD.out.1 HBD.out.2).mono ?_
  rw [HB.out]
  rintro e w4 ⟨rfl, hO⟩
  have HF4 := Lib.hid (HF2.out.keep hO)
  have HN4 := Lib.hid (HN.out.only hO id)
  clear hO HF2 HN
  go_wp2_with fail
  have c0 : w4.cell? ⟨g, 0, none⟩ = some (.int .i64 ka) := HN4.out.cell_ (i := 0) rfl
  have c1 : w4.cell? ⟨g, 1, none⟩ = some (.int .i64 ca) := HN4.out.cell_ (i := 1) rfl
  have c2 : w4.cell? ⟨g, 2, none⟩ = some (.int .u32 xa) := HN4.out.cell_ (i := 2) rfl
  have c3 : w4.cell? ⟨g, 3, none⟩ = some (.int .u32 ya) := HN4.out.cell_ (i := 3) rfl
  have c4 : w4.cell? ⟨g, 4, none⟩ = some (.int .u32 oa) := HN4.out.cell_ (i := 4) rfl
  refine wp_region_held_drew (S := fun w' => w'.cell? ⟨g, 0, none⟩ = some (.int .i64 ka) ∧ w'.cell? ⟨g, 1, none⟩ = some (.int .i64 ca) ∧ w'.cell? ⟨g, 2, none⟩ = some (.int .u32 xa) ∧ w'.cell? ⟨g, 3, none⟩ = some (.int .u32 ya) ∧ w'.cell? ⟨g, 4, none⟩ = some (.int .u32 oa)) (by kernel_rfl) ⟨c0, c1, c2, c3, c4⟩ (fun hHeld => ?_)
  have HF5 := Lib.hid (HF4.out.keep (Only.refl Nil w4).drew)
  have HN5 := Lib.hid HN4.out.drew
  clear c0 c1 c2 c3 c4 HF4 HN4
  generalize w4.drew = w5 at *
  refine zk 0 rfl ?_
  refine zk 1 rfl ?_
  have n0 : w5.cell? ⟨B + 1 + 1, 0, none⟩ = some (.int .i64 0) := HF5.out.rn.cell_ (i := 0) rfl
  have m0 : w5.frozen? ⟨B + 1 + 1, 0, none⟩ = false := HF5.out.rn.frozen 0
  refine mcl 2 rfl (by kernel_rfl) (by rfl) (fun K hK => ?_)
  go_simp
  have HF6 := Lib.hid (HF5.out.setN 1)
  have HN6 := Lib.hid (HN5.out.far (p := ⟨B + 1 + 1, 0, none⟩) (by have := HG.out; show g ≠ B + 1 + 1; omega) (.int .i64 1))
  refine hK.out _ _ ⟨HN6.out.cell_ (i := 0) rfl, HN6.out.cell_ (i := 1) rfl, HN6.out.cell_ (i := 2) rfl, HN6.out.cell_ (i := 3) rfl, HN6.out.cell_ (i := 4) rfl⟩ (fun hHeld2 => ?_)
  clear hK K hHeld n0 m0 HF5 HN5
  generalize w5.setCell ⟨B + 1 + 1, 0, none⟩ (.int .i64 1) = w6 at *
  have c0 : w6.cell? ⟨B + 1 + 1 + 1, 0, none⟩ = some (.int .i64 0) := HF6.out.ra.cell_ (i := 0) rfl
  have c1 : w6.cell? ⟨B + 1 + 1 + 1, 1, none⟩ = some (.int .i64 0) := HF6.out.ra.cell_ (i := 1) rfl
  have c2 : w6.cell? ⟨B + 1 + 1 + 1, 2, none⟩ = some (.int .u32 0) := HF6.out.ra.cell_ (i := 2) rfl
  have c3 : w6.cell? ⟨B + 1 + 1 + 1, 3, none⟩ = some (.int .u32 0) := HF6.out.ra.cell_ (i := 3) rfl
  have c4 : w6.cell? ⟨B + 1 + 1 + 1, 4, none⟩ = some (.int .u32 0) := HF6.out.ra.cell_ (i := 4) rfl
  have g0 : w6.frozen? ⟨B + 1 + 1 + 1, 0, none⟩ = false := HF6.out.ra.frozen 0
  have g1 : w6.frozen? ⟨B + 1 + 1 + 1, 1, none⟩ = false := HF6.out.ra.frozen 1
  have g2 : w6.frozen? ⟨B + 1 + 1 + 1, 2, none⟩ = false := HF6.out.ra.frozen 2
  have g3 : w6.frozen? ⟨B + 1 + 1 + 1, 3, none⟩ = false := HF6.out.ra.frozen 3
  have g4 : w6.frozen? ⟨B + 1 + 1 + 1, 4, none⟩ = false := HF6.out.ra.frozen 4
  refine mcl 3 rfl (by kernel_rfl) (by rfl) (fun K hK => ?_)
  go_simp
  have HF7 := Lib.hid (HF6.out.setA (.int .i64 ka) (.int .i64 ca) (.int .u32 xa) (.int .u32 ya) (.int .u32 oa))
  have HN7 := Lib.hid (HN6.out.only (five_only (Only.refl (· = B + 1 + 1 + 1) w6) (g := B + 1 + 1 + 1) (.inr rfl) (.int .i64 ka) (.int .i64 ca) (.int .u32 xa) (.int .u32 ya) (.int .u32 oa)) (by have := HG.out; show ¬ g = B + 1 + 1 + 1; omega))
  refine hK.out _ _ ⟨HN7.out.cell_ (i := 0) rfl, HN7.out.cell_ (i := 1) rfl, HN7.out.cell_ (i := 2) rfl, HN7.out.cell_ (i := 3) rfl, HN7.out.cell_ (i := 4) rfl⟩ (fun hHeld3 => ?_)
  clear hK K hHeld2 c0 c1 c2 c3 c4 g0 g1 g2 g3 g4 HF6 HN6
  generalize (((((w6.setCell ⟨B + 1 + 1 + 1, 0, none⟩ (.int .i64 ka)).setCell ⟨B + 1 + 1 + 1, 1, none⟩ (.int .i64 ca)).setCell ⟨B + 1 + 1 + 1, 2, none⟩ (.int .u32 xa)).setCell ⟨B + 1 + 1 + 1, 3, none⟩ (.int .u32 ya)).setCell ⟨B + 1 + 1 + 1, 4, none⟩ (.int .u32 oa)) = w7 at *
  refine zk 4 rfl ?_
  refine zk 5 rfl ?_
  refine wpAnyH_done (by kernel_rfl) ?_ _
  clear hHeld3
  go_wp2
  refine post_two_tmps (P := Tryz.prog) Tryz.results74 (by rfl) HF7.out.rn Tryz.underlying25 rfl (by kernel_rfl) (by rfl) HF7.out.ra Tryz.underlying39 rfl (by kernel_rfl) rfl ⟨?_, HF7.out.only, HF7.out.own⟩
  rw [HV.out]; rfl
set_option maxHeartbeats 400000 in
theorem rstep_high_no (base : Nat) (A : Option Addr) (l cp : Nat) (xs : List Int) (n i s c k m x : Int) (w : World) (h : Own w base A cp xs) (hn : xs.length = l) (hx : Words xs) (hs : 4 < s) (hb : uIs k m x (wordAt xs c) = false) :
    Calls Tryz.prog 74 #[.slice A l cp, .int .i64 n, .int .i64 2, .int .i64 i, .agg #[.int .i64 s], .int .i64 c, .agg #[.int .i64 k, .int .u32 m, .int .u32 x]] w (RStepped base A cp ⟨1, doVal xs 1 c 0 0, false, false, xs⟩ w) := by
  have hs' : decide (s < 0) = false := decide_eq_false (by omega)
  have hs2 : decide (4 < s) = true := decide_eq_true hs
  have HB := Lib.hid hb
  clear hb
  have HF0 := Lib.hid (RF.start s k m x h)
  have HX := Lib.hid hx
  have HLN := Lib.hid hn
  clear h hx hn
  go_enter Tryz.func74, Tryz.ntmps74
  go_wp2_with fail
  generalize (((w.alloc (.cells #[.int .i64 s] 25)).alloc (.cells #[.int .i64 k, .int .u32 m, .int .u32 x] 79)).alloc (.cells #[.int .i64 0] 25)).alloc (.cells #[.int .i64 0, .int .i64 0, .int .u32 0, .int .u32 0, .int .u32 0] 39) = w1 at *
  generalize w.heap.size = B at *
  refine (refdo_any base A l cp xs 1 c 0 0 0 _ HF0.out.own HLN.out).mono ?_
  obtain ⟨ka, ca, xa, ya, hv⟩ := doVal_form xs 1 c 0 0
  rw [oldAt xs 1 c rfl] at hv
  rw [hv, doNew_load]
  rintro e w2 ⟨rfl, hO, hM⟩
  have HF1 := Lib.hid (HF0.out.call hO hM)
  have HV := Lib.hid hv
  have HBD := Lib.hid (word_wf HX.out c)
  clear hO hM hv HF0
  generalize wordAt xs c = oa at *
  generalize doOk xs 1 c = ok at *
  have HF2 := Lib.hid (HF1.out.keep ((Only.refl Nil w2).alloc (.cells #[.int .i64 ka, .int .i64 ca, .int .u32 xa, .int .u32 ya, .int .u32 oa] 39)))
  have HN := Lib.hid (Row.new w2 39 #[.int .i64 ka, .int .i64 ca, .int .u32 xa, .int .u32 ya, .int .u32 oa])
  have HG := Lib.hid (show B + 1 + 1 + 1 < w2.heap.size from HF1.out.ra.lt)
  have u0 : ∀ o, (w2.alloc o).cell? ⟨B + 1, 0, none⟩ = some (.int .i64 k) := fun o => (HF1.out.ru.alloc o).cell_ (i := 0) rfl
  have u1 : ∀ o, (w2.alloc o).cell? ⟨B + 1, 1, none⟩ = some (.int .u32 m) := fun o => (HF1.out.ru.alloc o).cell_ (i := 1) rfl
  have u2 : ∀ o, (w2.alloc o).cell? ⟨B + 1, 2, none⟩ = some (.int .u32 x) := fun o => (HF1.out.ru.alloc o).cell_ (i := 2) rfl
  go_wp2_with fail
  clear u0 u1 u2 HF1
  generalize w2.alloc (.cells #[.int .i64 ka, .int .i64 ca, .int .u32 xa, .int .u32 ya, .int .u32 oa] 39) = w3 at *
  generalize w2.heap.size = g at *
  refine (is_any k m x oa _ HBD.out.1 HBD.out.2).mono ?_
  rw [HB.out]
  rintro e w4 ⟨rfl, hO⟩
  have HF4 := Lib.hid (HF2.out.keep hO)
  have HN4 := Lib.hid (HN.out.only hO id)
  clear hO HF2 HN
  go_wp2_with fail
  have c0 : w4.cell? ⟨g, 0, none⟩ = some (.int .i64 ka) := HN4.out.cell_ (i := 0) rfl
  have c1 : w4.cell? ⟨g, 1, none⟩ = some (.int .i64 ca) := HN4.out.cell_ (i := 1) rfl
  have c2 : w4.cell? ⟨g, 2, none⟩ = some (.int .u32 xa) := HN4.out.cell_ (i := 2) rfl
  have c3 : w4.cell? ⟨g, 3, none⟩ = some (.int .u32 ya) := HN4.out.cell_ (i := 3) rfl
  have c4 : w4.cell? ⟨g, 4, none⟩ = some (.int .u32 oa) := HN4.out.cell_ (i := 4) rfl
  refine wp_region_held_drew (S := fun w' => w'.cell? ⟨g, 0, none⟩ = some (.int .i64 ka) ∧ w'.cell? ⟨g, 1, none⟩ = some (.int .i64 ca) ∧ w'.cell? ⟨g, 2, none⟩ = some (.int .u32 xa) ∧ w'.cell? ⟨g, 3, none⟩ = some (.int .u32 ya) ∧ w'.cell? ⟨g, 4, none⟩ = some (.int .u32 oa)) (by kernel_rfl) ⟨c0, c1, c2, c3, c4⟩ (fun hHeld => ?_)
  have HF5 := Lib.hid (HF4.out.keep (Only.refl Nil w4).drew)
  have HN5 := Lib.hid HN4.out.drew
  clear c0 c1 c2 c3 c4 HF4 HN4
  generalize w4.drew = w5 at *
  refine zk 0 rfl ?_
  refine zk 1 rfl ?_
  have n0 : w5.cell? ⟨B + 1 + 1, 0, none⟩ = some (.int .i64 0) := HF5.out.rn.cell_ (i := 0) rfl
  have m0 : w5.frozen? ⟨B + 1 + 1, 0, none⟩ = false := HF5.out.rn.frozen 0
  refine mcl 2 rfl (by kernel_rfl) (by rfl) (fun K hK => ?_)
  go_simp
  have HF6 := Lib.hid (HF5.out.setN 1)
  have HN6 := Lib.hid (HN5.out.far (p := ⟨B + 1 + 1, 0, none⟩) (by have := HG.out; show g ≠ B + 1 + 1; omega) (.int .i64 1))
  refine hK.out _ _ ⟨HN6.out.cell_ (i := 0) rfl, HN6.out.cell_ (i := 1) rfl, HN6.out.cell_ (i := 2) rfl, HN6.out.cell_ (i := 3) rfl, HN6.out.cell_ (i := 4) rfl⟩ (fun hHeld2 => ?_)
  clear hK K hHeld n0 m0 HF5 HN5
  generalize w5.setCell ⟨B + 1 + 1, 0, none⟩ (.int .i64 1) = w6 at *
  have c0 : w6.cell? ⟨B + 1 + 1 + 1, 0, none⟩ = some (.int .i64 0) := HF6.out.ra.cell_ (i := 0) rfl
  have c1 : w6.cell? ⟨B + 1 + 1 + 1, 1, none⟩ = some (.int .i64 0) := HF6.out.ra.cell_ (i := 1) rfl
  have c2 : w6.cell? ⟨B + 1 + 1 + 1, 2, none⟩ = some (.int .u32 0) := HF6.out.ra.cell_ (i := 2) rfl
  have c3 : w6.cell? ⟨B + 1 + 1 + 1, 3, none⟩ = some (.int .u32 0) := HF6.out.ra.cell_ (i := 3) rfl
  have c4 : w6.cell? ⟨B + 1 + 1 + 1, 4, none⟩ = some (.int .u32 0) := HF6.out.ra.cell_ (i := 4) rfl
  have g0 : w6.frozen? ⟨B + 1 + 1 + 1, 0, none⟩ = false := HF6.out.ra.frozen 0
  have g1 : w6.frozen? ⟨B + 1 + 1 + 1, 1, none⟩ = false := HF6.out.ra.frozen 1
  have g2 : w6.frozen? ⟨B + 1 + 1 + 1, 2, none⟩ = false := HF6.out.ra.frozen 2
  have g3 : w6.frozen? ⟨B + 1 + 1 + 1, 3, none⟩ = false := HF6.out.ra.frozen 3
  have g4 : w6.frozen? ⟨B + 1 + 1 + 1, 4, none⟩ = false := HF6.out.ra.frozen 4
  refine mcl 3 rfl (by kernel_rfl) (by rfl) (fun K hK => ?_)
  go_simp
  have HF7 := Lib.hid (HF6.out.setA (.int .i64 ka) (.int .i64 ca) (.int .u32 xa) (.int .u32 ya) (.int .u32 oa))
  have HN7 := Lib.hid (HN6.out.only (five_only (Only.refl (· = B + 1 + 1 + 1) w6) (g := B + 1 + 1 + 1) (.inr rfl) (.int .i64 ka) (.int .i64 ca) (.int .u32 xa) (.int .u32 ya) (.int .u32 oa)) (by have := HG.out; show ¬ g = B + 1 + 1 + 1; omega))
  refine hK.out _ _ ⟨HN7.out.cell_ (i := 0) rfl, HN7.out.cell_ (i := 1) rfl, HN7.out.cell_ (i := 2) rfl, HN7.out.cell_ (i := 3) rfl, HN7.out.cell_ (i := 4) rfl⟩ (fun hHeld3 => ?_)
  clear hK K hHeld2 c0 c1 c2 c3 c4 g0 g1 g2 g3 g4 HF6 HN6
  generalize (((((w6.setCell ⟨B + 1 + 1 + 1, 0, none⟩ (.int .i64 ka)).setCell ⟨B + 1 + 1 + 1, 1, none⟩ (.int .i64 ca)).setCell ⟨B + 1 + 1 + 1, 2, none⟩ (.int .u32 xa)).setCell ⟨B + 1 + 1 + 1, 3, none⟩ (.int .u32 ya)).setCell ⟨B + 1 + 1 + 1, 4, none⟩ (.int .u32 oa)) = w7 at *
  refine zk 4 rfl ?_
  refine zk 5 rfl ?_
  refine wpAnyH_done (by kernel_rfl) ?_ _
  clear hHeld3
  go_wp2
  refine post_two_tmps (P := Tryz.prog) Tryz.results74 (by rfl) HF7.out.rn Tryz.underlying25 rfl (by kernel_rfl) (by rfl) HF7.out.ra Tryz.underlying39 rfl (by kernel_rfl) rfl ⟨?_, HF7.out.only, HF7.out.own⟩
  rw [HV.out]; rfl
set_option maxHeartbeats 400000 in
theorem rstep_zero_no (base : Nat) (A : Option Addr) (l cp : Nat) (xs : List Int) (n i c k m x : Int) (w : World) (h : Own w base A cp xs) (hn : xs.length = l) (hx : Words xs) (hb : uIs k m x (wordAt xs c) = false) :
    Calls Tryz.prog 74 #[.slice A l cp, .int .i64 n, .int .i64 2, .int .i64 i, .agg #[.int .i64 0], .int .i64 c, .agg #[.int .i64 k, .int .u32 m, .int .u32 x]] w (RStepped base A cp ⟨1, doVal xs 1 c 0 0, false, false, xs⟩ w) := by
  have HB := Lib.hid hb
  clear hb
  have HF0 := Lib.hid (RF.start 0 k m x h)
  have HX := Lib.hid hx
  have HLN := Lib.hid hn
  clear h hx hn
  go_enter Tryz.func74, Tryz.ntmps74
  go_wp2_with fail
  generalize (((w.alloc (.cells #[.int .i64 0] 25)).alloc (.cells #[.int .i64 k, .int .u32 m, .int .u32 x] 79)).alloc (.cells #[.int .i64 0] 25)).alloc (.cells #[.int .i64 0, .int .i64 0, .int .u32 0, .int .u32 0, .int .u32 0] 39) = w1 at *
  generalize w.heap.size = B at *
  refine (refdo_any base A l cp xs 1 c 0 0 0 _ HF0.out.own HLN.out).mono ?_
  obtain ⟨ka, ca, xa, ya, hv⟩ := doVal_form xs 1 c 0 0
  rw [oldAt xs 1 c rfl] at hv
  rw [hv, doNew_load]
  rintro e w2 ⟨rfl, hO, hM⟩
  have HF1 := Lib.hid (HF0.out.call hO hM)
  have HV := Lib.hid hv
  have HBD := Lib.hid (word_wf HX.out c)
  clear hO hM hv HF0
  generalize wordAt xs c = oa at *
  generalize doOk xs 1 c = ok at *
  have HF2 := Lib.hid (HF1.out.keep ((Only.refl Nil w2).alloc (.cells #[.int .i64 ka, .int .i64 ca, .int .u32 xa, .int .u32 ya, .int .u32 oa] 39)))
  have HN := Lib.hid (Row.new w2 39 #[.int .i64 ka, .int .i64 ca, .int .u32 xa, .int .u32 ya, .int .u32 oa])
  have HG := Lib.hid (show B + 1 + 1 + 1 < w2.heap.size from HF1.out.ra.lt)
  have u0 : ∀ o, (w2.alloc o).cell? ⟨B + 1, 0, none⟩ = some (.int .i64 k) := fun o => (HF1.out.ru.alloc o).cell_ (i := 0) rfl
  have u1 : ∀ o, (w2.alloc o).cell? ⟨B + 1, 1, none⟩ = some (.int .u32 m) := fun o => (HF1.out.ru.alloc o).cell_ (i := 1) rfl
  have u2 : ∀ o, (w2.alloc o).cell? ⟨B + 1, 2, none⟩ = some (.int .u32 x) := fun o => (HF1.out.ru.alloc o).cell_ (i := 2) rfl
  go_wp2_with fail
  clear u0 u1 u2 HF1
  generalize w2.alloc (.cells #[.int .i64 ka, .int .i64 ca, .int .u32 xa, .int .u32 ya, .int .u32 oa] 39) = w3 at *
  generalize w2.heap.size = g at *
  refine (is_any k m x oa _ HBD.out.1 HBD.out.2).mono ?_
  rw [HB.out]
  rintro e w4 ⟨rfl, hO⟩
  have HF4 := Lib.hid (HF2.out.keep hO)
  have HN4 := Lib.hid (HN.out.only hO id)
  clear hO HF2 HN
  go_wp2_with fail
  have c0 : w4.cell? ⟨g, 0, none⟩ = some (.int .i64 ka) := HN4.out.cell_ (i := 0) rfl
  have c1 : w4.cell? ⟨g, 1, none⟩ = some (.int .i64 ca) := HN4.out.cell_ (i := 1) rfl
  have c2 : w4.cell? ⟨g, 2, none⟩ = some (.int .u32 xa) := HN4.out.cell_ (i := 2) rfl
  have c3 : w4.cell? ⟨g, 3, none⟩ = some (.int .u32 ya) := HN4.out.cell_ (i := 3) rfl
  have c4 : w4.cell? ⟨g, 4, none⟩ = some (.int .u32 oa) := HN4.out.cell_ (i := 4) rfl
  refine wp_region_held_drew (S := fun w' => w'.cell? ⟨g, 0, none⟩ = some (.int .i64 ka) ∧ w'.cell? ⟨g, 1, none⟩ = some (.int .i64 ca) ∧ w'.cell? ⟨g, 2, none⟩ = some (.int .u32 xa) ∧ w'.cell? ⟨g, 3, none⟩ = some (.int .u32 ya) ∧ w'.cell? ⟨g, 4, none⟩ = some (.int .u32 oa)) (by kernel_rfl) ⟨c0, c1, c2, c3, c4⟩ (fun hHeld => ?_)
  have HF5 := Lib.hid (HF4.out.keep (Only.refl Nil w4).drew)
  have HN5 := Lib.hid HN4.out.drew
  clear c0 c1 c2 c3 c4 HF4 HN4
  generalize w4.drew = w5 at *
  refine zk 0 rfl ?_
  refine zk 1 rfl ?_
  have n0 : w5.cell? ⟨B + 1 + 1, 0, none⟩ = some (.int .i64 0) := HF5.out.rn.cell_ (i := 0) rfl
  have m0 : w5.frozen? ⟨B + 1 + 1, 0, none⟩ = false := HF5.out.rn.frozen 0
  refine mcl 2 rfl (by kernel_rfl) (by rfl) (fun K hK => ?_)
  go_simp
  have HF6 := Lib.hid (HF5.out.setN 1)
  have HN6 := Lib.hid (HN5.out.far (p := ⟨B + 1 + 1, 0, none⟩) (by have := HG.out; show g ≠ B + 1 + 1; omega) (.int .i64 1))
  refine hK.out _ _ ⟨HN6.out.cell_ (i := 0) rfl, HN6.out.cell_ (i := 1) rfl, HN6.out.cell_ (i := 2) rfl, HN6.out.cell_ (i := 3) rfl, HN6.out.cell_ (i := 4) rfl⟩ (fun hHeld2 => ?_)
  clear hK K hHeld n0 m0 HF5 HN5
  generalize w5.setCell ⟨B + 1 + 1, 0, none⟩ (.int .i64 1) = w6 at *
  have c0 : w6.cell? ⟨B + 1 + 1 + 1, 0, none⟩ = some (.int .i64 0) := HF6.out.ra.cell_ (i := 0) rfl
  have c1 : w6.cell? ⟨B + 1 + 1 + 1, 1, none⟩ = some (.int .i64 0) := HF6.out.ra.cell_ (i := 1) rfl
  have c2 : w6.cell? ⟨B + 1 + 1 + 1, 2, none⟩ = some (.int .u32 0) := HF6.out.ra.cell_ (i := 2) rfl
  have c3 : w6.cell? ⟨B + 1 + 1 + 1, 3, none⟩ = some (.int .u32 0) := HF6.out.ra.cell_ (i := 3) rfl
  have c4 : w6.cell? ⟨B + 1 + 1 + 1, 4, none⟩ = some (.int .u32 0) := HF6.out.ra.cell_ (i := 4) rfl
  have g0 : w6.frozen? ⟨B + 1 + 1 + 1, 0, none⟩ = false := HF6.out.ra.frozen 0
  have g1 : w6.frozen? ⟨B + 1 + 1 + 1, 1, none⟩ = false := HF6.out.ra.frozen 1
  have g2 : w6.frozen? ⟨B + 1 + 1 + 1, 2, none⟩ = false := HF6.out.ra.frozen 2
  have g3 : w6.frozen? ⟨B + 1 + 1 + 1, 3, none⟩ = false := HF6.out.ra.frozen 3
  have g4 : w6.frozen? ⟨B + 1 + 1 + 1, 4, none⟩ = false := HF6.out.ra.frozen 4
  refine mcl 3 rfl (by kernel_rfl) (by rfl) (fun K hK => ?_)
  go_simp
  have HF7 := Lib.hid (HF6.out.setA (.int .i64 ka) (.int .i64 ca) (.int .u32 xa) (.int .u32 ya) (.int .u32 oa))
  have HN7 := Lib.hid (HN6.out.only (five_only (Only.refl (· = B + 1 + 1 + 1) w6) (g := B + 1 + 1 + 1) (.inr rfl) (.int .i64 ka) (.int .i64 ca) (.int .u32 xa) (.int .u32 ya) (.int .u32 oa)) (by have := HG.out; show ¬ g = B + 1 + 1 + 1; omega))
  refine hK.out _ _ ⟨HN7.out.cell_ (i := 0) rfl, HN7.out.cell_ (i := 1) rfl, HN7.out.cell_ (i := 2) rfl, HN7.out.cell_ (i := 3) rfl, HN7.out.cell_ (i := 4) rfl⟩ (fun hHeld3 => ?_)
  clear hK K hHeld2 c0 c1 c2 c3 c4 g0 g1 g2 g3 g4 HF6 HN6
  generalize (((((w6.setCell ⟨B + 1 + 1 + 1, 0, none⟩ (.int .i64 ka)).setCell ⟨B + 1 + 1 + 1, 1, none⟩ (.int .i64 ca)).setCell ⟨B + 1 + 1 + 1, 2, none⟩ (.int .u32 xa)).setCell ⟨B + 1 + 1 + 1, 3, none⟩ (.int .u32 ya)).setCell ⟨B + 1 + 1 + 1, 4, none⟩ (.int .u32 oa)) = w7 at *
  refine zk 4 rfl ?_
  refine zk 5 rfl ?_
  refine wpAnyH_done (by kernel_rfl) ?_ _
  clear hHeld3
  go_wp2
  refine post_two_tmps (P := Tryz.prog) Tryz.results74 (by rfl) HF7.out.rn Tryz.underlying25 rfl (by kernel_rfl) (by rfl) HF7.out.ra Tryz.underlying39 rfl (by kernel_rfl) rfl ⟨?_, HF7.out.only, HF7.out.own⟩
  rw [HV.out]; rfl
set_option maxHeartbeats 400000 in
theorem rstep_2_yes (base : Nat) (A : Option Addr) (l cp : Nat) (xs : List Int) (n i c k m x : Int) (w : World) (h : Own w base A cp xs) (hn : xs.length = l) (hx : Words xs) (hb : uIs k m x (wordAt xs c) = true) :
    Calls Tryz.prog 74 #[.slice A l cp, .int .i64 n, .int .i64 2, .int .i64 i, .agg #[.int .i64 2], .int .i64 c, .agg #[.int .i64 k, .int .u32 m, .int .u32 x]] w (RStepped base A cp ⟨4, doVal xs 1 c 0 0, true, false, xs⟩ w) := by
  have HB := Lib.hid hb
  clear hb
  have HF0 := Lib.hid (RF.start 2 k m x h)
  have HX := Lib.hid hx
  have HLN := Lib.hid hn
  clear h hx hn
  go_enter Tryz.func74, Tryz.ntmps74
  go_wp2_with fail
  generalize (((w.alloc (.cells #[.int .i64 2] 25)).alloc (.cells #[.int .i64 k, .int .u32 m, .int .u32 x] 79)).alloc (.cells #[.int .i64 0] 25)).alloc (.cells #[.int .i64 0, .int .i64 0, .int .u32 0, .int .u32 0, .int .u32 0] 39) = w1 at *
  generalize w.heap.size = B at *
  refine (refdo_any base A l cp xs 1 c 0 0 0 _ HF0.out.own HLN.out).mono ?_
  obtain ⟨ka, ca, xa, ya, hv⟩ := doVal_form xs 1 c 0 0
  rw [oldAt xs 1 c rfl] at hv
  rw [hv, doNew_load]
  rintro e w2 ⟨rfl, hO, hM⟩
  have HF1 := Lib.hid (HF0.out.call hO hM)
  have HV := Lib.hid hv
  have HBD := Lib.hid (word_wf HX.out c)
  clear hO hM hv HF0
  generalize wordAt xs c = oa at *
  generalize doOk xs 1 c = ok at *
  have HF2 := Lib.hid (HF1.out.keep ((Only.refl Nil w2).alloc (.cells #[.int .i64 ka, .int .i64 ca, .int .u32 xa, .int .u32 ya, .int .u32 oa] 39)))
  have HN := Lib.hid (Row.new w2 39 #[.int .i64 ka, .int .i64 ca, .int .u32 xa, .int .u32 ya, .int .u32 oa])
  have HG := Lib.hid (show B + 1 + 1 + 1 < w2.heap.size from HF1.out.ra.lt)
  have u0 : ∀ o, (w2.alloc o).cell? ⟨B + 1, 0, none⟩ = some (.int .i64 k) := fun o => (HF1.out.ru.alloc o).cell_ (i := 0) rfl
  have u1 : ∀ o, (w2.alloc o).cell? ⟨B + 1, 1, none⟩ = some (.int .u32 m) := fun o => (HF1.out.ru.alloc o).cell_ (i := 1) rfl
  have u2 : ∀ o, (w2.alloc o).cell? ⟨B + 1, 2, none⟩ = some (.int .u32 x) := fun o => (HF1.out.ru.alloc o).cell_ (i := 2) rfl
  go_wp2_with fail
  clear u0 u1 u2 HF1
  generalize w2.alloc (.cells #[.int .i64 ka, .int .i64 ca, .int .u32 xa, .int .u32 ya, .int .u32 oa] 39) = w3 at *
  generalize w2.heap.size = g at *
  refine (is_any k m x oa _ HBD.out.1 HBD.out.2).mono ?_
  rw [HB.out]
  rintro e w4 ⟨rfl, hO⟩
  have HF4 := Lib.hid (HF2.out.keep hO)
  have HN4 := Lib.hid (HN.out.only hO id)
  clear hO HF2 HN
  go_wp2_with fail
  have c0 : w4.cell? ⟨g, 0, none⟩ = some (.int .i64 ka) := HN4.out.cell_ (i := 0) rfl
  have c1 : w4.cell? ⟨g, 1, none⟩ = some (.int .i64 ca) := HN4.out.cell_ (i := 1) rfl
  have c2 : w4.cell? ⟨g, 2, none⟩ = some (.int .u32 xa) := HN4.out.cell_ (i := 2) rfl
  have c3 : w4.cell? ⟨g, 3, none⟩ = some (.int .u32 ya) := HN4.out.cell_ (i := 3) rfl
  have c4 : w4.cell? ⟨g, 4, none⟩ = some (.int .u32 oa) := HN4.out.cell_ (i := 4) rfl
  refine wp_region_held_drew (S := fun w' => w'.cell? ⟨g, 0, none⟩ = some (.int .i64 ka) ∧ w'.cell? ⟨g, 1, none⟩ = some (.int .i64 ca) ∧ w'.cell? ⟨g, 2, none⟩ = some (.int .u32 xa) ∧ w'.cell? ⟨g, 3, none⟩ = some (.int .u32 ya) ∧ w'.cell? ⟨g, 4, none⟩ = some (.int .u32 oa)) (by kernel_rfl) ⟨c0, c1, c2, c3, c4⟩ (fun hHeld => ?_)
  have HF5 := Lib.hid (HF4.out.keep (Only.refl Nil w4).drew)
  have HN5 := Lib.hid HN4.out.drew
  clear c0 c1 c2 c3 c4 HF4 HN4
  generalize w4.drew = w5 at *
  refine zk 0 rfl ?_
  refine zk 1 rfl ?_
  have n0 : w5.cell? ⟨B + 1 + 1, 0, none⟩ = some (.int .i64 0) := HF5.out.rn.cell_ (i := 0) rfl
  have m0 : w5.frozen? ⟨B + 1 + 1, 0, none⟩ = false := HF5.out.rn.frozen 0
  refine mcl 2 rfl (by kernel_rfl) (by rfl) (fun K hK => ?_)
  go_simp
  have HF6 := Lib.hid (HF5.out.setN 4)
  have HN6 := Lib.hid (HN5.out.far (p := ⟨B + 1 + 1, 0, none⟩) (by have := HG.out; show g ≠ B + 1 + 1; omega) (.int .i64 4))
  refine hK.out _ _ ⟨HN6.out.cell_ (i := 0) rfl, HN6.out.cell_ (i := 1) rfl, HN6.out.cell_ (i := 2) rfl, HN6.out.cell_ (i := 3) rfl, HN6.out.cell_ (i := 4) rfl⟩ (fun hHeld2 => ?_)
  clear hK K hHeld n0 m0 HF5 HN5
  generalize w5.setCell ⟨B + 1 + 1, 0, none⟩ (.int .i64 4) = w6 at *
  have c0 : w6.cell? ⟨B + 1 + 1 + 1, 0, none⟩ = some (.int .i64 0) := HF6.out.ra.cell_ (i := 0) rfl
  have c1 : w6.cell? ⟨B + 1 + 1 + 1, 1, none⟩ = some (.int .i64 0) := HF6.out.ra.cell_ (i := 1) rfl
  have c2 : w6.cell? ⟨B + 1 + 1 + 1, 2, none⟩ = some (.int .u32 0) := HF6.out.ra.cell_ (i := 2) rfl
  have c3 : w6.cell? ⟨B + 1 + 1 + 1, 3, none⟩ = some (.int .u32 0) := HF6.out.ra.cell_ (i := 3) rfl
  have c4 : w6.cell? ⟨B + 1 + 1 + 1, 4, none⟩ = some (.int .u32 0) := HF6.out.ra.cell_ (i := 4) rfl
  have g0 : w6.frozen? ⟨B + 1 + 1 + 1, 0, none⟩ = false := HF6.out.ra.frozen 0
  have g1 : w6.frozen? ⟨B + 1 + 1 + 1, 1, none⟩ = false := HF6.out.ra.frozen 1
  have g2 : w6.frozen? ⟨B + 1 + 1 + 1, 2, none⟩ = false := HF6.out.ra.frozen 2
  have g3 : w6.frozen? ⟨B + 1 + 1 + 1, 3, none⟩ = false := HF6.out.ra.frozen 3
  have g4 : w6.frozen? ⟨B + 1 + 1 + 1, 4, none⟩ = false := HF6.out.ra.frozen 4
  refine mcl 3 rfl (by kernel_rfl) (by rfl) (fun K hK => ?_)
  go_simp
  have HF7 := Lib.hid (HF6.out.setA (.int .i64 ka) (.int .i64 ca) (.int .u32 xa) (.int .u32 ya) (.int .u32 oa))
  have HN7 := Lib.hid (HN6.out.only (five_only (Only.refl (· = B + 1 + 1 + 1) w6) (g := B + 1 + 1 + 1) (.inr rfl) (.int .i64 ka) (.int .i64 ca) (.int .u32 xa) (.int .u32 ya) (.int .u32 oa)) (by have := HG.out; show ¬ g = B + 1 + 1 + 1; omega))
  refine hK.out _ _ ⟨HN7.out.cell_ (i := 0) rfl, HN7.out.cell_ (i := 1) rfl, HN7.out.cell_ (i := 2) rfl, HN7.out.cell_ (i := 3) rfl, HN7.out.cell_ (i := 4) rfl⟩ (fun hHeld3 => ?_)
  clear hK K hHeld2 c0 c1 c2 c3 c4 g0 g1 g2 g3 g4 HF6 HN6
  generalize (((((w6.setCell ⟨B + 1 + 1 + 1, 0, none⟩ (.int .i64 ka)).setCell ⟨B + 1 + 1 + 1, 1, none⟩ (.int .i64 ca)).setCell ⟨B + 1 + 1 + 1, 2, none⟩ (.int .u32 xa)).setCell ⟨B + 1 + 1 + 1, 3, none⟩ (.int .u32 ya)).setCell ⟨B + 1 + 1 + 1, 4, none⟩ (.int .u32 oa)) = w7 at *
  refine zk 4 rfl ?_
  refine zk 5 rfl ?_
  refine wpAnyH_done (by kernel_rfl) ?_ _
  clear hHeld3
  go_wp2
  refine post_two_tmps (P := Tryz.prog) Tryz.results74 (by rfl) HF7.out.rn Tryz.underlying25 rfl (by kernel_rfl) (by rfl) HF7.out.ra Tryz.underlying39 rfl (by kernel_rfl) rfl ⟨?_, HF7.out.only, HF7.out.own⟩
  rw [HV.out]; rfl
set_option maxHeartbeats 400000 in
theorem rstep_2_no (base : Nat) (A : Option Addr) (l cp : Nat) (xs : List Int) (n i c k m x : Int) (w : World) (h : Own w base A cp xs) (hn : xs.length = l) (hx : Words xs) (hb : uIs k m x (wordAt xs c) = false) :
    Calls Tryz.prog 74 #[.slice A l cp, .int .i64 n, .int .i64 2, .int .i64 i, .agg #[.int .i64 2], .int .i64 c, .agg #[.int .i64 k, .int .u32 m, .int .u32 x]] w (RStepped base A cp ⟨3, doVal xs 1 c 0 0, false, false, xs⟩ w) := by
  have HB := Lib.hid hb
  clear hb
  have HF0 := Lib.hid (RF.start 2 k m x h)
  have HX := Lib.hid hx
  have HLN := Lib.hid hn
  clear h hx hn
  go_enter Tryz.func74, Tryz.ntmps74
  go_wp2_with fail
  generalize (((w.alloc (.cells #[.int .i64 2] 25)).alloc (.cells #[.int .i64 k, .int .u32 m, .int .u32 x] 79)).alloc (.cells #[.int .i64 0] 25)).alloc (.cells #[.int .i64 0, .int .i64 0, .int .u32 0, .int .u32 0, .int .u32 0] 39) = w1 at *
  generalize w.heap.size = B at *
  refine (refdo_any base A l cp xs 1 c 0 0 0 _ HF0.out.own HLN.out).mono ?_
  obtain ⟨ka, ca, xa, ya, hv⟩ := doVal_form xs 1 c 0 0
  rw [oldAt xs 1 c rfl] at hv
  rw [hv, doNew_load]
  rintro e w2 ⟨rfl, hO, hM⟩
  have HF1 := Lib.hid (HF0.out.call hO hM)
  have HV := Lib.hid hv
  have HBD := Lib.hid (word_wf HX.out c)
  clear hO hM hv HF0
  generalize wordAt xs c = oa at *
  generalize doOk xs 1 c = ok at *
  have HF2 := Lib.hid (HF1.out.keep ((Only.refl Nil w2).alloc (.cells #[.int .i64 ka, .int .i64 ca, .int .u32 xa, .int .u32 ya, .int .u32 oa] 39)))
  have HN := Lib.hid (Row.new w2 39 #[.int .i64 ka, .int .i64 ca, .int .u32 xa, .int .u32 ya, .int .u32 oa])
  have HG := Lib.hid (show B + 1 + 1 + 1 < w2.heap.size from HF1.out.ra.lt)
  have u0 : ∀ o, (w2.alloc o).cell? ⟨B + 1, 0, none⟩ = some (.int .i64 k) := fun o => (HF1.out.ru.alloc o).cell_ (i := 0) rfl
  have u1 : ∀ o, (w2.alloc o).cell? ⟨B + 1, 1, none⟩ = some (.int .u32 m) := fun o => (HF1.out.ru.alloc o).cell_ (i := 1) rfl
  have u2 : ∀ o, (w2.alloc o).cell? ⟨B + 1, 2, none⟩ = some (.int .u32 x) := fun o => (HF1.out.ru.alloc o).cell_ (i := 2) rfl
  go_wp2_with fail
  clear u0 u1 u2 HF1
  generalize w2.alloc (.cells #[.int .i64 ka, .int .i64 ca, .int .u32 xa, .int .u32 ya, .int .u32 oa] 39) = w3 at *
  generalize w2.heap.size = g at *
  refine (is_any k m x oa _ HBD.out.1 HBD.out.2).mono ?_
  rw [HB.out]
  rintro e w4 ⟨rfl, hO⟩
  have HF4 := Lib.hid (HF2.out.keep hO)
  have HN4 := Lib.hid (HN.out.only hO id)
  clear hO HF2 HN
  go_wp2_with fail
  have c0 : w4.cell? ⟨g, 0, none⟩ = some (.int .i64 ka) := HN4.out.cell_ (i := 0) rfl
  have c1 : w4.cell? ⟨g, 1, none⟩ = some (.int .i64 ca) := HN4.out.cell_ (i := 1) rfl
  have c2 : w4.cell? ⟨g, 2, none⟩ = some (.int .u32 xa) := HN4.out.cell_ (i := 2) rfl
  have c3 : w4.cell? ⟨g, 3, none⟩ = some (.int .u32 ya) := HN4.out.cell_ (i := 3) rfl
  have c4 : w4.cell? ⟨g, 4, none⟩ = some (.int .u32 oa) := HN4.out.cell_ (i := 4) rfl
  refine wp_region_held_drew (S := fun w' => w'.cell? ⟨g, 0, none⟩ = some (.int .i64 ka) ∧ w'.cell? ⟨g, 1, none⟩ = some (.int .i64 ca) ∧ w'.cell? ⟨g, 2, none⟩ = some (.int .u32 xa) ∧ w'.cell? ⟨g, 3, none⟩ = some (.int .u32 ya) ∧ w'.cell? ⟨g, 4, none⟩ = some (.int .u32 oa)) (by kernel_rfl) ⟨c0, c1, c2, c3, c4⟩ (fun hHeld => ?_)
  have HF5 := Lib.hid (HF4.out.keep (Only.refl Nil w4).drew)
  have HN5 := Lib.hid HN4.out.drew
  clear c0 c1 c2 c3 c4 HF4 HN4
  generalize w4.drew = w5 at *
  refine zk 0 rfl ?_
  refine zk 1 rfl ?_
  have n0 : w5.cell? ⟨B + 1 + 1, 0, none⟩ = some (.int .i64 0) := HF5.out.rn.cell_ (i := 0) rfl
  have m0 : w5.frozen? ⟨B + 1 + 1, 0, none⟩ = false := HF5.out.rn.frozen 0
  refine mcl 2 rfl (by kernel_rfl) (by rfl) (fun K hK => ?_)
  go_simp
  have HF6 := Lib.hid (HF5.out.setN 3)
  have HN6 := Lib.hid (HN5.out.far (p := ⟨B + 1 + 1, 0, none⟩) (by have := HG.out; show g ≠ B + 1 + 1; omega) (.int .i64 3))
  refine hK.out _ _ ⟨HN6.out.cell_ (i := 0) rfl, HN6.out.cell_ (i := 1) rfl, HN6.out.cell_ (i := 2) rfl, HN6.out.cell_ (i := 3) rfl, HN6.out.cell_ (i := 4) rfl⟩ (fun hHeld2 => ?_)
  clear hK K hHeld n0 m0 HF5 HN5
  generalize w5.setCell ⟨B + 1 + 1, 0, none⟩ (.int .i64 3) = w6 at *
  have c0 : w6.cell? ⟨B + 1 + 1 + 1, 0, none⟩ = some (.int .i64 0) := HF6.out.ra.cell_ (i := 0) rfl
  have c1 : w6.cell? ⟨B + 1 + 1 + 1, 1, none⟩ = some (.int .i64 0) := HF6.out.ra.cell_ (i := 1) rfl
  have c2 : w6.cell? ⟨B + 1 + 1 + 1, 2, none⟩ = some (.int .u32 0) := HF6.out.ra.cell_ (i := 2) rfl
  have c3 : w6.cell? ⟨B + 1 + 1 + 1, 3, none⟩ = some (.int .u32 0) := HF6.out.ra.cell_ (i := 3) rfl
  have c4 : w6.cell? ⟨B + 1 + 1 + 1, 4, none⟩ = some (.int .u32 0) := HF6.out.ra.cell_ (i := 4) rfl
  have g0 : w6.frozen? ⟨B + 1 + 1 + 1, 0, none⟩ = false := HF6.out.ra.frozen 0
  have g1 : w6.frozen? ⟨B + 1 + 1 + 1, 1, none⟩ = false := HF6.out.ra.frozen 1
  have g2 : w6.frozen? ⟨B + 1 + 1 + 1, 2, none⟩ = false := HF6.out.ra.frozen 2
  have g3 : w6.frozen? ⟨B + 1 + 1 + 1, 3, none⟩ = false := HF6.out.ra.frozen 3
  have g4 : w6.frozen? ⟨B + 1 + 1 + 1, 4, none⟩ = false := HF6.out.ra.frozen 4
  refine mcl 3 rfl (by kernel_rfl) (by rfl) (fun K hK => ?_)
  go_simp
  have HF7 := Lib.hid (HF6.out.setA (.int .i64 ka) (.int .i64 ca) (.int .u32 xa) (.int .u32 ya) (.int .u32 oa))
  have HN7 := Lib.hid (HN6.out.only (five_only (Only.refl (· = B + 1 + 1 + 1) w6) (g := B + 1 + 1 + 1) (.inr rfl) (.int .i64 ka) (.int .i64 ca) (.int .u32 xa) (.int .u32 ya) (.int .u32 oa)) (by have := HG.out; show ¬ g = B + 1 + 1 + 1; omega))
  refine hK.out _ _ ⟨HN7.out.cell_ (i := 0) rfl, HN7.out.cell_ (i := 1) rfl, HN7.out.cell_ (i := 2) rfl, HN7.out.cell_ (i := 3) rfl, HN7.out.cell_ (i := 4) rfl⟩ (fun hHeld3 => ?_)
  clear hK K hHeld2 c0 c1 c2 c3 c4 g0 g1 g2 g3 g4 HF6 HN6
  generalize (((((w6.setCell ⟨B + 1 + 1 + 1, 0, none⟩ (.int .i64 ka)).setCell ⟨B + 1 + 1 + 1, 1, none⟩ (.int .i64 ca)).setCell ⟨B + 1 + 1 + 1, 2, none⟩ (.int .u32 xa)).setCell ⟨B + 1 + 1 + 1, 3, none⟩ (.int .u32 ya)).setCell ⟨B + 1 + 1 + 1, 4, none⟩ (.int .u32 oa)) = w7 at *
  refine zk 4 rfl ?_
  refine zk 5 rfl ?_
  refine wpAnyH_done (by kernel_rfl) ?_ _
  clear hHeld3
  go_wp2
  refine post_two_tmps (P := Tryz.prog) Tryz.results74 (by rfl) HF7.out.rn Tryz.underlying25 rfl (by kernel_rfl) (by rfl) HF7.out.ra Tryz.underlying39 rfl (by kernel_rfl) rfl ⟨?_, HF7.out.only, HF7.out.own⟩
  rw [HV.out]; rfl
set_option maxHeartbeats 400000 in
theorem rstep_1 (base : Nat) (A : Option Addr) (l cp : Nat) (xs : List Int) (n i c k m x : Int) (w : World) (h : Own w base A cp xs) (hn : xs.length = l) (hx : Words xs) :
    Calls Tryz.prog 74 #[.slice A l cp, .int .i64 n, .int .i64 2, .int .i64 i, .agg #[.int .i64 1], .int .i64 c, .agg #[.int .i64 k, .int .u32 m, .int .u32 x]] w (RStepped base A cp ⟨2, doVal xs 2 (wc n i) ((c + 1) % 4294967296) 0, false, false, st xs (wc n i) ((c + 1) % 4294967296)⟩ w) := by
  have HF0 := Lib.hid (RF.start 1 k m x h)
  have HX := Lib.hid hx
  have HLN := Lib.hid hn
  clear h hx hn
  go_enter Tryz.func74, Tryz.ntmps74
  go_wp2_with fail
  generalize (((w.alloc (.cells #[.int .i64 1] 25)).alloc (.cells #[.int .i64 k, .int .u32 m, .int .u32 x] 79)).alloc (.cells #[.int .i64 0] 25)).alloc (.cells #[.int .i64 0, .int .i64 0, .int .u32 0, .int .u32 0, .int .u32 0] 39) = w1 at *
  generalize w.heap.size = B at *
  refine (refdo_any base A l cp xs 1 c 0 0 0 _ HF0.out.own HLN.out).mono ?_
  obtain ⟨ka, ca, xa, ya, hv⟩ := doVal_form xs 1 c 0 0
  rw [oldAt xs 1 c rfl] at hv
  rw [hv, doNew_load]
  rintro e w2 ⟨rfl, hO, hM⟩
  have HF1 := Lib.hid (HF0.out.call hO hM)
  have HV := Lib.hid hv
  have HBD := Lib.hid (word_wf HX.out c)
  clear hO hM hv HF0
  generalize wordAt xs c = oa at *
  generalize doOk xs 1 c = ok at *
  have HF2 := Lib.hid (HF1.out.keep ((Only.refl Nil w2).alloc (.cells #[.int .i64 ka, .int .i64 ca, .int .u32 xa, .int .u32 ya, .int .u32 oa] 39)))
  have HN := Lib.hid (Row.new w2 39 #[.int .i64 ka, .int .i64 ca, .int .u32 xa, .int .u32 ya, .int .u32 oa])
  have HG := Lib.hid (show B + 1 + 1 + 1 < w2.heap.size from HF1.out.ra.lt)
  go_wp2_with fail
  clear HF1 HV HBD
  generalize w2.alloc (.cells #[.int .i64 ka, .int .i64 ca, .int .u32 xa, .int .u32 ya, .int .u32 oa] 39) = w3 at *
  clear HN HG
  generalize w2.heap.size = g2 at *
  refine (refCell_any n 2 i _ (by omega)).mono ?_
  rintro e w4 ⟨rfl, rfl⟩
  rw [show cellI n 2 i = wc n i from rfl]
  go_wp2_with fail
  refine (refdo_any base A l cp xs 2 (wc n i) ((c + 1) % 4294967296) 0 0 _ HF2.out.own HLN.out).mono ?_
  have hst : doNew xs 2 (wc n i) ((c + 1) % 4294967296) 0 = st xs (wc n i) ((c + 1) % 4294967296) := by rw [doNew_st xs 2 _ _ 0 rfl]; rfl
  obtain ⟨kb, cb, xb, yb, hv⟩ := doVal_form xs 2 (wc n i) ((c + 1) % 4294967296) 0
  generalize (if doOk xs 2 (wc n i) = true then wordAt xs (wc n i) else 0) = ob at hv
  rw [hv, hst]
  rintro e w4 ⟨rfl, hO, hM⟩
  have HF3 := Lib.hid (HF2.out.call hO hM)
  have HV := Lib.hid hv
  clear hO hM hv hst HF2
  generalize doOk xs 2 (wc n i) = ok2 at *
  have HF8 := Lib.hid (HF3.out.keep ((Only.refl Nil w4).alloc (.cells #[.int .i64 kb, .int .i64 cb, .int .u32 xb, .int .u32 yb, .int .u32 ob] 39)))
  have HN8 := Lib.hid (Row.new w4 39 #[.int .i64 kb, .int .i64 cb, .int .u32 xb, .int .u32 yb, .int .u32 ob])
  have HG := Lib.hid (show B + 1 + 1 + 1 < w4.heap.size from HF3.out.ra.lt)
  go_wp2_with fail
  clear HF3
  generalize w4.alloc (.cells #[.int .i64 kb, .int .i64 cb, .int .u32 xb, .int .u32 yb, .int .u32 ob] 39) = w8 at *
  generalize w4.heap.size = g at *
  have c0 : w8.cell? ⟨g, 0, none⟩ = some (.int .i64 kb) := HN8.out.cell_ (i := 0) rfl
  have c1 : w8.cell? ⟨g, 1, none⟩ = some (.int .i64 cb) := HN8.out.cell_ (i := 1) rfl
  have c2 : w8.cell? ⟨g, 2, none⟩ = some (.int .u32 xb) := HN8.out.cell_ (i := 2) rfl
  have c3 : w8.cell? ⟨g, 3, none⟩ = some (.int .u32 yb) := HN8.out.cell_ (i := 3) rfl
  have c4 : w8.cell? ⟨g, 4, none⟩ = some (.int .u32 ob) := HN8.out.cell_ (i := 4) rfl
  refine wp_region_held_drew (S := fun w' => w'.cell? ⟨g, 0, none⟩ = some (.int .i64 kb) ∧ w'.cell? ⟨g, 1, none⟩ = some (.int .i64 cb) ∧ w'.cell? ⟨g, 2, none⟩ = some (.int .u32 xb) ∧ w'.cell? ⟨g, 3, none⟩ = some (.int .u32 yb) ∧ w'.cell? ⟨g, 4, none⟩ = some (.int .u32 ob)) (by kernel_rfl) ⟨c0, c1, c2, c3, c4⟩ (fun hHeld => ?_)
  have HF5 := Lib.hid (HF8.out.keep (Only.refl Nil w8).drew)
  have HN5 := Lib.hid HN8.out.drew
  clear c0 c1 c2 c3 c4 HF8 HN8
  generalize w8.drew = w5 at *
  refine zk 0 rfl ?_
  refine zk 1 rfl ?_
  have n0 : w5.cell? ⟨B + 1 + 1, 0, none⟩ = some (.int .i64 0) := HF5.out.rn.cell_ (i := 0) rfl
  have m0 : w5.frozen? ⟨B + 1 + 1, 0, none⟩ = false := HF5.out.rn.frozen 0
  refine mcl 2 rfl (by kernel_rfl) (by rfl) (fun K hK => ?_)
  go_simp
  have HF6 := Lib.hid (HF5.out.setN 2)
  have HN6 := Lib.hid (HN5.out.far (p := ⟨B + 1 + 1, 0, none⟩) (by have := HG.out; show g ≠ B + 1 + 1; omega) (.int .i64 2))
  refine hK.out _ _ ⟨HN6.out.cell_ (i := 0) rfl, HN6.out.cell_ (i := 1) rfl, HN6.out.cell_ (i := 2) rfl, HN6.out.cell_ (i := 3) rfl, HN6.out.cell_ (i := 4) rfl⟩ (fun hHeld2 => ?_)
  clear hK K hHeld n0 m0 HF5 HN5
  generalize w5.setCell ⟨B + 1 + 1, 0, none⟩ (.int .i64 2) = w6 at *
  have c0 : w6.cell? ⟨B + 1 + 1 + 1, 0, none⟩ = some (.int .i64 0) := HF6.out.ra.cell_ (i := 0) rfl
  have c1 : w6.cell? ⟨B + 1 + 1 + 1, 1, none⟩ = some (.int .i64 0) := HF6.out.ra.cell_ (i := 1) rfl
  have c2 : w6.cell? ⟨B + 1 + 1 + 1, 2, none⟩ = some (.int .u32 0) := HF6.out.ra.cell_ (i := 2) rfl
  have c3 : w6.cell? ⟨B + 1 + 1 + 1, 3, none⟩ = some (.int .u32 0) := HF6.out.ra.cell_ (i := 3) rfl
  have c4 : w6.cell? ⟨B + 1 + 1 + 1, 4, none⟩ = some (.int .u32 0) := HF6.out.ra.cell_ (i := 4) rfl
  have g0 : w6.frozen? ⟨B + 1 + 1 + 1, 0, none⟩ = false := HF6.out.ra.frozen 0
  have g1 : w6.frozen? ⟨B + 1 + 1 + 1, 1, none⟩ = false := HF6.out.ra.frozen 1
  have g2 : w6.frozen? ⟨B + 1 + 1 + 1, 2, none⟩ = false := HF6.out.ra.frozen 2
  have g3 : w6.frozen? ⟨B + 1 + 1 + 1, 3, none⟩ = false := HF6.out.ra.frozen 3
  have g4 : w6.frozen? ⟨B + 1 + 1 + 1, 4, none⟩ = false := HF6.out.ra.frozen 4
  refine mcl 3 rfl (by kernel_rfl) (by rfl) (fun K hK => ?_)
  go_simp
  have HF7 := Lib.hid (HF6.out.setA (.int .i64 kb) (.int .i64 cb) (.int .u32 xb) (.int .u32 yb) (.int .u32 ob))
  have HN7 := Lib.hid (HN6.out.only (five_only (Only.refl (· = B + 1 + 1 + 1) w6) (g := B + 1 + 1 + 1) (.inr rfl) (.int .i64 kb) (.int .i64 cb) (.int .u32 xb) (.int .u32 yb) (.int .u32 ob)) (by have := HG.out; show ¬ g = B + 1 + 1 + 1; omega))
  refine hK.out _ _ ⟨HN7.out.cell_ (i := 0) rfl, HN7.out.cell_ (i := 1) rfl, HN7.out.cell_ (i := 2) rfl, HN7.out.cell_ (i := 3) rfl, HN7.out.cell_ (i := 4) rfl⟩ (fun hHeld3 => ?_)
  clear hK K hHeld2 c0 c1 c2 c3 c4 g0 g1 g2 g3 g4 HF6 HN6
  generalize (((((w6.setCell ⟨B + 1 + 1 + 1, 0, none⟩ (.int .i64 kb)).setCell ⟨B + 1 + 1 + 1, 1, none⟩ (.int .i64 cb)).setCell ⟨B + 1 + 1 + 1, 2, none⟩ (.int .u32 xb)).setCell ⟨B + 1 + 1 + 1, 3, none⟩ (.int .u32 yb)).setCell ⟨B + 1 + 1 + 1, 4, none⟩ (.int .u32 ob)) = w7 at *
  refine zk 4 rfl ?_
  refine zk 5 rfl ?_
  refine wpAnyH_done (by kernel_rfl) ?_ _
  clear hHeld3
  go_wp2
  refine post_two_tmps (P := Tryz.prog) Tryz.results74 (by rfl) HF7.out.rn Tryz.underlying25 rfl (by kernel_rfl) (by rfl) HF7.out.ra Tryz.underlying39 rfl (by kernel_rfl) rfl ⟨?_, HF7.out.only, HF7.out.own⟩
  rw [HV.out]; rfl
set_option maxHeartbeats 400000 in
theorem rstep_4 (base : Nat) (A : Option Addr) (l cp : Nat) (xs : List Int) (n i c k m x : Int) (w : World) (h : Own w base A cp xs) (hn : xs.length = l) (hx : Words xs) :
    Calls Tryz.prog 74 #[.slice A l cp, .int .i64 n, .int .i64 2, .int .i64 i, .agg #[.int .i64 4], .int .i64 c, .agg #[.int .i64 k, .int .u32 m, .int .u32 x]] w (RStepped base A cp ⟨0, doVal xs 2 (wc n i) 0 0, false, true, st xs (wc n i) 0⟩ w) := by
  have HF0 := Lib.hid (RF.start 4 k m x h)
  have HX := Lib.hid hx
  have HLN := Lib.hid hn
  clear h hx hn
  go_enter Tryz.func74, Tryz.ntmps74
  go_wp2_with fail
  generalize (((w.alloc (.cells #[.int .i64 4] 25)).alloc (.cells #[.int .i64 k, .int .u32 m, .int .u32 x] 79)).alloc (.cells #[.int .i64 0] 25)).alloc (.cells #[.int .i64 0, .int .i64 0, .int .u32 0, .int .u32 0, .int .u32 0] 39) = w1 at *
  generalize w.heap.size = B at *
  refine (refdo_any base A l cp xs 1 c 0 0 0 _ HF0.out.own HLN.out).mono ?_
  obtain ⟨ka, ca, xa, ya, hv⟩ := doVal_form xs 1 c 0 0
  rw [oldAt xs 1 c rfl] at hv
  rw [hv, doNew_load]
  rintro e w2 ⟨rfl, hO, hM⟩
  have HF1 := Lib.hid (HF0.out.call hO hM)
  have HV := Lib.hid hv
  have HBD := Lib.hid (word_wf HX.out c)
  clear hO hM hv HF0
  generalize wordAt xs c = oa at *
  generalize doOk xs 1 c = ok at *
  have HF2 := Lib.hid (HF1.out.keep ((Only.refl Nil w2).alloc (.cells #[.int .i64 ka, .int .i64 ca, .int .u32 xa, .int .u32 ya, .int .u32 oa] 39)))
  have HN := Lib.hid (Row.new w2 39 #[.int .i64 ka, .int .i64 ca, .int .u32 xa, .int .u32 ya, .int .u32 oa])
  have HG := Lib.hid (show B + 1 + 1 + 1 < w2.heap.size from HF1.out.ra.lt)
  go_wp2_with fail
  clear HF1 HV HBD
  generalize w2.alloc (.cells #[.int .i64 ka, .int .i64 ca, .int .u32 xa, .int .u32 ya, .int .u32 oa] 39) = w3 at *
  clear HN HG
  generalize w2.heap.size = g2 at *
  refine (refCell_any n 2 i _ (by omega)).mono ?_
  rintro e w4 ⟨rfl, rfl⟩
  rw [show cellI n 2 i = wc n i from rfl]
  go_wp2_with fail
  refine (refdo_any base A l cp xs 2 (wc n i) (0) 0 0 _ HF2.out.own HLN.out).mono ?_
  have hst : doNew xs 2 (wc n i) (0) 0 = st xs (wc n i) (0) := by rw [doNew_st xs 2 _ _ 0 rfl]; rfl
  obtain ⟨kb, cb, xb, yb, hv⟩ := doVal_form xs 2 (wc n i) (0) 0
  generalize (if doOk xs 2 (wc n i) = true then wordAt xs (wc n i) else 0) = ob at hv
  rw [hv, hst]
  rintro e w4 ⟨rfl, hO, hM⟩
  have HF3 := Lib.hid (HF2.out.call hO hM)
  have HV := Lib.hid hv
  clear hO hM hv hst HF2
  generalize doOk xs 2 (wc n i) = ok2 at *
  have HF8 := Lib.hid (HF3.out.keep ((Only.refl Nil w4).alloc (.cells #[.int .i64 kb, .int .i64 cb, .int .u32 xb, .int .u32 yb, .int .u32 ob] 39)))
  have HN8 := Lib.hid (Row.new w4 39 #[.int .i64 kb, .int .i64 cb, .int .u32 xb, .int .u32 yb, .int .u32 ob])
  have HG := Lib.hid (show B + 1 + 1 + 1 < w4.heap.size from HF3.out.ra.lt)
  go_wp2_with fail
  clear HF3
  generalize w4.alloc (.cells #[.int .i64 kb, .int .i64 cb, .int .u32 xb, .int .u32 yb, .int .u32 ob] 39) = w8 at *
  generalize w4.heap.size = g at *
  have c0 : w8.cell? ⟨g, 0, none⟩ = some (.int .i64 kb) := HN8.out.cell_ (i := 0) rfl
  have c1 : w8.cell? ⟨g, 1, none⟩ = some (.int .i64 cb) := HN8.out.cell_ (i := 1) rfl
  have c2 : w8.cell? ⟨g, 2, none⟩ = some (.int .u32 xb) := HN8.out.cell_ (i := 2) rfl
  have c3 : w8.cell? ⟨g, 3, none⟩ = some (.int .u32 yb) := HN8.out.cell_ (i := 3) rfl
  have c4 : w8.cell? ⟨g, 4, none⟩ = some (.int .u32 ob) := HN8.out.cell_ (i := 4) rfl
  refine wp_region_held_drew (S := fun w' => w'.cell? ⟨g, 0, none⟩ = some (.int .i64 kb) ∧ w'.cell? ⟨g, 1, none⟩ = some (.int .i64 cb) ∧ w'.cell? ⟨g, 2, none⟩ = some (.int .u32 xb) ∧ w'.cell? ⟨g, 3, none⟩ = some (.int .u32 yb) ∧ w'.cell? ⟨g, 4, none⟩ = some (.int .u32 ob)) (by kernel_rfl) ⟨c0, c1, c2, c3, c4⟩ (fun hHeld => ?_)
  have HF5 := Lib.hid (HF8.out.keep (Only.refl Nil w8).drew)
  have HN5 := Lib.hid HN8.out.drew
  clear c0 c1 c2 c3 c4 HF8 HN8
  generalize w8.drew = w5 at *
  refine zk 0 rfl ?_
  refine zk 1 rfl ?_
  have n0 : w5.cell? ⟨B + 1 + 1, 0, none⟩ = some (.int .i64 0) := HF5.out.rn.cell_ (i := 0) rfl
  have m0 : w5.frozen? ⟨B + 1 + 1, 0, none⟩ = false := HF5.out.rn.frozen 0
  refine mcl 2 rfl (by kernel_rfl) (by rfl) (fun K hK => ?_)
  go_simp
  have HF6 := Lib.hid (HF5.out.setN 0)
  have HN6 := Lib.hid (HN5.out.far (p := ⟨B + 1 + 1, 0, none⟩) (by have := HG.out; show g ≠ B + 1 + 1; omega) (.int .i64 0))
  refine hK.out _ _ ⟨HN6.out.cell_ (i := 0) rfl, HN6.out.cell_ (i := 1) rfl, HN6.out.cell_ (i := 2) rfl, HN6.out.cell_ (i := 3) rfl, HN6.out.cell_ (i := 4) rfl⟩ (fun hHeld2 => ?_)
  clear hK K hHeld n0 m0 HF5 HN5
  generalize w5.setCell ⟨B + 1 + 1, 0, none⟩ (.int .i64 0) = w6 at *
  have c0 : w6.cell? ⟨B + 1 + 1 + 1, 0, none⟩ = some (.int .i64 0) := HF6.out.ra.cell_ (i := 0) rfl
  have c1 : w6.cell? ⟨B + 1 + 1 + 1, 1, none⟩ = some (.int .i64 0) := HF6.out.ra.cell_ (i := 1) rfl
  have c2 : w6.cell? ⟨B + 1 + 1 + 1, 2, none⟩ = some (.int .u32 0) := HF6.out.ra.cell_ (i := 2) rfl
  have c3 : w6.cell? ⟨B + 1 + 1 + 1, 3, none⟩ = some (.int .u32 0) := HF6.out.ra.cell_ (i := 3) rfl
  have c4 : w6.cell? ⟨B + 1 + 1 + 1, 4, none⟩ = some (.int .u32 0) := HF6.out.ra.cell_ (i := 4) rfl
  have g0 : w6.frozen? ⟨B + 1 + 1 + 1, 0, none⟩ = false := HF6.out.ra.frozen 0
  have g1 : w6.frozen? ⟨B + 1 + 1 + 1, 1, none⟩ = false := HF6.out.ra.frozen 1
  have g2 : w6.frozen? ⟨B + 1 + 1 + 1, 2, none⟩ = false := HF6.out.ra.frozen 2
  have g3 : w6.frozen? ⟨B + 1 + 1 + 1, 3, none⟩ = false := HF6.out.ra.frozen 3
  have g4 : w6.frozen? ⟨B + 1 + 1 + 1, 4, none⟩ = false := HF6.out.ra.frozen 4
  refine mcl 3 rfl (by kernel_rfl) (by rfl) (fun K hK => ?_)
  go_simp
  have HF7 := Lib.hid (HF6.out.setA (.int .i64 kb) (.int .i64 cb) (.int .u32 xb) (.int .u32 yb) (.int .u32 ob))
  have HN7 := Lib.hid (HN6.out.only (five_only (Only.refl (· = B + 1 + 1 + 1) w6) (g := B + 1 + 1 + 1) (.inr rfl) (.int .i64 kb) (.int .i64 cb) (.int .u32 xb) (.int .u32 yb) (.int .u32 ob)) (by have := HG.out; show ¬ g = B + 1 + 1 + 1; omega))
  refine hK.out _ _ ⟨HN7.out.cell_ (i := 0) rfl, HN7.out.cell_ (i := 1) rfl, HN7.out.cell_ (i := 2) rfl, HN7.out.cell_ (i := 3) rfl, HN7.out.cell_ (i := 4) rfl⟩ (fun hHeld3 => ?_)
  clear hK K hHeld2 c0 c1 c2 c3 c4 g0 g1 g2 g3 g4 HF6 HN6
  generalize (((((w6.setCell ⟨B + 1 + 1 + 1, 0, none⟩ (.int .i64 kb)).setCell ⟨B + 1 + 1 + 1, 1, none⟩ (.int .i64 cb)).setCell ⟨B + 1 + 1 + 1, 2, none⟩ (.int .u32 xb)).setCell ⟨B + 1 + 1 + 1, 3, none⟩ (.int .u32 yb)).setCell ⟨B + 1 + 1 + 1, 4, none⟩ (.int .u32 ob)) = w7 at *
  refine zk 4 rfl ?_
  refine zk 5 rfl ?_
  refine wpAnyH_done (by kernel_rfl) ?_ _
  clear hHeld3
  go_wp2
  refine post_two_tmps (P := Tryz.prog) Tryz.results74 (by rfl) HF7.out.rn Tryz.underlying25 rfl (by kernel_rfl) (by rfl) HF7.out.ra Tryz.underlying39 rfl (by kernel_rfl) rfl ⟨?_, HF7.out.only, HF7.out.own⟩
  rw [HV.out]; rfl
set_option maxHeartbeats 400000 in
theorem rstep_3_yes (base : Nat) (A : Option Addr) (l cp : Nat) (xs : List Int) (n i c k m x : Int) (w : World) (h : Own w base A cp xs) (hn : xs.length = l) (hx : Words xs) (hb : hasP xs n i = true) :
    Calls Tryz.prog 74 #[.slice A l cp, .int .i64 n, .int .i64 2, .int .i64 i, .agg #[.int .i64 3], .int .i64 c, .agg #[.int .i64 k, .int .u32 m, .int .u32 x]] w (RStepped base A cp ⟨2, takeVal xs n i, false, false, st xs (pc n i) 0⟩ w) := by
  have HB := Lib.hid hb
  clear hb
  have HF0 := Lib.hid (RF.start 3 k m x h)
  have HX := Lib.hid hx
  have HLN := Lib.hid hn
  clear h hx hn
  go_enter Tryz.func74, Tryz.ntmps74
  go_wp2_with fail
  generalize (((w.alloc (.cells #[.int .i64 3] 25)).alloc (.cells #[.int .i64 k, .int .u32 m, .int .u32 x] 79)).alloc (.cells #[.int .i64 0] 25)).alloc (.cells #[.int .i64 0, .int .i64 0, .int .u32 0, .int .u32 0, .int .u32 0] 39) = w1 at *
  generalize w.heap.size = B at *
  refine (refdo_any base A l cp xs 1 c 0 0 0 _ HF0.out.own HLN.out).mono ?_
  obtain ⟨ka, ca, xa, ya, hv⟩ := doVal_form xs 1 c 0 0
  rw [oldAt xs 1 c rfl] at hv
  rw [hv, doNew_load]
  rintro e w2 ⟨rfl, hO, hM⟩
  have HF1 := Lib.hid (HF0.out.call hO hM)
  have HV := Lib.hid hv
  have HBD := Lib.hid (word_wf HX.out c)
  clear hO hM hv HF0
  generalize wordAt xs c = oa at *
  generalize doOk xs 1 c = ok at *
  have HF2 := Lib.hid (HF1.out.keep ((Only.refl Nil w2).alloc (.cells #[.int .i64 ka, .int .i64 ca, .int .u32 xa, .int .u32 ya, .int .u32 oa] 39)))
  have HN := Lib.hid (Row.new w2 39 #[.int .i64 ka, .int .i64 ca, .int .u32 xa, .int .u32 ya, .int .u32 oa])
  have HG := Lib.hid (show B + 1 + 1 + 1 < w2.heap.size from HF1.out.ra.lt)
  go_wp2_with fail
  clear HF1 HV HBD
  generalize w2.alloc (.cells #[.int .i64 ka, .int .i64 ca, .int .u32 xa, .int .u32 ya, .int .u32 oa] 39) = w3 at *
  clear HN HG
  generalize w2.heap.size = g2 at *
  refine (rtake_any base A l cp xs n i _ HF2.out.own HLN.out).mono ?_
  obtain ⟨kb, cb, xb, yb, ob, hv⟩ := takeVal_form xs n i
  rw [HB.out]
  rw [hv]
  rintro e w4 ⟨rfl, hO, hM⟩
  have HF3 := Lib.hid (HF2.out.call hO hM)
  have HV := Lib.hid hv
  clear hO hM hv HF2
  have HF8 := Lib.hid (HF3.out.keep ((Only.refl Nil w4).alloc (.cells #[.int .i64 kb, .int .i64 cb, .int .u32 xb, .int .u32 yb, .int .u32 ob] 39)))
  have HN8 := Lib.hid (Row.new w4 39 #[.int .i64 kb, .int .i64 cb, .int .u32 xb, .int .u32 yb, .int .u32 ob])
  have HG := Lib.hid (show B + 1 + 1 + 1 < w4.heap.size from HF3.out.ra.lt)
  go_wp2_with fail
  clear HF3
  generalize w4.alloc (.cells #[.int .i64 kb, .int .i64 cb, .int .u32 xb, .int .u32 yb, .int .u32 ob] 39) = w8 at *
  generalize w4.heap.size = g at *
  have c0 : w8.cell? ⟨g, 0, none⟩ = some (.int .i64 kb) := HN8.out.cell_ (i := 0) rfl
  have c1 : w8.cell? ⟨g, 1, none⟩ = some (.int .i64 cb) := HN8.out.cell_ (i := 1) rfl
  have c2 : w8.cell? ⟨g, 2, none⟩ = some (.int .u32 xb) := HN8.out.cell_ (i := 2) rfl
  have c3 : w8.cell? ⟨g, 3, none⟩ = some (.int .u32 yb) := HN8.out.cell_ (i := 3) rfl
  have c4 : w8.cell? ⟨g, 4, none⟩ = some (.int .u32 ob) := HN8.out.cell_ (i := 4) rfl
  refine wp_region_held_drew (S := fun w' => w'.cell? ⟨g, 0, none⟩ = some (.int .i64 kb) ∧ w'.cell? ⟨g, 1, none⟩ = some (.int .i64 cb) ∧ w'.cell? ⟨g, 2, none⟩ = some (.int .u32 xb) ∧ w'.cell? ⟨g, 3, none⟩ = some (.int .u32 yb) ∧ w'.cell? ⟨g, 4, none⟩ = some (.int .u32 ob)) (by kernel_rfl) ⟨c0, c1, c2, c3, c4⟩ (fun hHeld => ?_)
  have HF5 := Lib.hid (HF8.out.keep (Only.refl Nil w8).drew)
  have HN5 := Lib.hid HN8.out.drew
  clear c0 c1 c2 c3 c4 HF8 HN8
  generalize w8.drew = w5 at *
  refine zk 0 rfl ?_
  refine zk 1 rfl ?_
  have n0 : w5.cell? ⟨B + 1 + 1, 0, none⟩ = some (.int .i64 0) := HF5.out.rn.cell_ (i := 0) rfl
  have m0 : w5.frozen? ⟨B + 1 + 1, 0, none⟩ = false := HF5.out.rn.frozen 0
  refine mcl 2 rfl (by kernel_rfl) (by rfl) (fun K hK => ?_)
  go_simp
  have HF6 := Lib.hid (HF5.out.setN 2)
  have HN6 := Lib.hid (HN5.out.far (p := ⟨B + 1 + 1, 0, none⟩) (by have := HG.out; show g ≠ B + 1 + 1; omega) (.int .i64 2))
  refine hK.out _ _ ⟨HN6.out.cell_ (i := 0) rfl, HN6.out.cell_ (i := 1) rfl, HN6.out.cell_ (i := 2) rfl, HN6.out.cell_ (i := 3) rfl, HN6.out.cell_ (i := 4) rfl⟩ (fun hHeld2 => ?_)
  clear hK K hHeld n0 m0 HF5 HN5
  generalize w5.setCell ⟨B + 1 + 1, 0, none⟩ (.int .i64 2) = w6 at *
  have c0 : w6.cell? ⟨B + 1 + 1 + 1, 0, none⟩ = some (.int .i64 0) := HF6.out.ra.cell_ (i := 0) rfl
  have c1 : w6.cell? ⟨B + 1 + 1 + 1, 1, none⟩ = some (.int .i64 0) := HF6.out.ra.cell_ (i := 1) rfl
  have c2 : w6.cell? ⟨B + 1 + 1 + 1, 2, none⟩ = some (.int .u32 0) := HF6.out.ra.cell_ (i := 2) rfl
  have c3 : w6.cell? ⟨B + 1 + 1 + 1, 3, none⟩ = some (.int .u32 0) := HF6.out.ra.cell_ (i := 3) rfl
  have c4 : w6.cell? ⟨B + 1 + 1 + 1, 4, none⟩ = some (.int .u32 0) := HF6.out.ra.cell_ (i := 4) rfl
  have g0 : w6.frozen? ⟨B + 1 + 1 + 1, 0, none⟩ = false := HF6.out.ra.frozen 0
  have g1 : w6.frozen? ⟨B + 1 + 1 + 1, 1, none⟩ = false := HF6.out.ra.frozen 1
  have g2 : w6.frozen? ⟨B + 1 + 1 + 1, 2, none⟩ = false := HF6.out.ra.frozen 2
  have g3 : w6.frozen? ⟨B + 1 + 1 + 1, 3, none⟩ = false := HF6.out.ra.frozen 3
  have g4 : w6.frozen? ⟨B + 1 + 1 + 1, 4, none⟩ = false := HF6.out.ra.frozen 4
  refine mcl 3 rfl (by kernel_rfl) (by rfl) (fun K hK => ?_)
  go_simp
  have HF7 := Lib.hid (HF6.out.setA (.int .i64 kb) (.int .i64 cb) (.int .u32 xb) (.int .u32 yb) (.int .u32 ob))
  have HN7 := Lib.hid (HN6.out.only (five_only (Only.refl (· = B + 1 + 1 + 1) w6) (g := B + 1 + 1 + 1) (.inr rfl) (.int .i64 kb) (.int .i64 cb) (.int .u32 xb) (.int .u32 yb) (.int .u32 ob)) (by have := HG.out; show ¬ g = B + 1 + 1 + 1; omega))
  refine hK.out _ _ ⟨HN7.out.cell_ (i := 0) rfl, HN7.out.cell_ (i := 1) rfl, HN7.out.cell_ (i := 2) rfl, HN7.out.cell_ (i := 3) rfl, HN7.out.cell_ (i := 4) rfl⟩ (fun hHeld3 => ?_)
  clear hK K hHeld2 c0 c1 c2 c3 c4 g0 g1 g2 g3 g4 HF6 HN6
  generalize (((((w6.setCell ⟨B + 1 + 1 + 1, 0, none⟩ (.int .i64 kb)).setCell ⟨B + 1 + 1 + 1, 1, none⟩ (.int .i64 cb)).setCell ⟨B + 1 + 1 + 1, 2, none⟩ (.int .u32 xb)).setCell ⟨B + 1 + 1 + 1, 3, none⟩ (.int .u32 yb)).setCell ⟨B + 1 + 1 + 1, 4, none⟩ (.int .u32 ob)) = w7 at *
  refine zk 4 rfl ?_
  refine zk 5 rfl ?_
  refine wpAnyH_done (by kernel_rfl) ?_ _
  clear hHeld3
  go_wp2
  refine post_two_tmps (P := Tryz.prog) Tryz.results74 (by rfl) HF7.out.rn Tryz.underlying25 rfl (by kernel_rfl) (by rfl) HF7.out.ra Tryz.underlying39 rfl (by kernel_rfl) rfl ⟨?_, HF7.out.only, HF7.out.own⟩
  rw [HV.out]; rfl
set_option maxHeartbeats 400000 in
theorem rstep_3_no (base : Nat) (A : Option Addr) (l cp : Nat) (xs : List Int) (n i c k m x : Int) (w : World) (h : Own w base A cp xs) (hn : xs.length = l) (hx : Words xs) (hb : hasP xs n i = false) :
    Calls Tryz.prog 74 #[.slice A l cp, .int .i64 n, .int .i64 2, .int .i64 i, .agg #[.int .i64 3], .int .i64 c, .agg #[.int .i64 k, .int .u32 m, .int .u32 x]] w (RStepped base A cp ⟨3, takeVal xs n i, false, false, st xs (pc n i) 0⟩ w) := by
  have HB := Lib.hid hb
  clear hb
  have HF0 := Lib.hid (RF.start 3 k m x h)
  have HX := Lib.hid hx
  have HLN := Lib.hid hn
  clear h hx hn
  go_enter Tryz.func74, Tryz.ntmps74
  go_wp2_with fail
  generalize (((w.alloc (.cells #[.int .i64 3] 25)).alloc (.cells #[.int .i64 k, .int .u32 m, .int .u32 x] 79)).alloc (.cells #[.int .i64 0] 25)).alloc (.cells #[.int .i64 0, .int .i64 0, .int .u32 0, .int .u32 0, .int .u32 0] 39) = w1 at *
  generalize w.heap.size = B at *
  refine (refdo_any base A l cp xs 1 c 0 0 0 _ HF0.out.own HLN.out).mono ?_
  obtain ⟨ka, ca, xa, ya, hv⟩ := doVal_form xs 1 c 0 0
  rw [oldAt xs 1 c rfl] at hv
  rw [hv, doNew_load]
  rintro e w2 ⟨rfl, hO, hM⟩
  have HF1 := Lib.hid (HF0.out.call hO hM)
  have HV := Lib.hid hv
  have HBD := Lib.hid (word_wf HX.out c)
  clear hO hM hv HF0
  generalize wordAt xs c = oa at *
  generalize doOk xs 1 c = ok at *
  have HF2 := Lib.hid (HF1.out.keep ((Only.refl Nil w2).alloc (.cells #[.int .i64 ka, .int .i64 ca, .int .u32 xa, .int .u32 ya, .int .u32 oa] 39)))
  have HN := Lib.hid (Row.new w2 39 #[.int .i64 ka, .int .i64 ca, .int .u32 xa, .int .u32 ya, .int .u32 oa])
  have HG := Lib.hid (show B + 1 + 1 + 1 < w2.heap.size from HF1.out.ra.lt)
  go_wp2_with fail
  clear HF1 HV HBD
  generalize w2.alloc (.cells #[.int .i64 ka, .int .i64 ca, .int .u32 xa, .int .u32 ya, .int .u32 oa] 39) = w3 at *
  clear HN HG
  generalize w2.heap.size = g2 at *
  refine (rtake_any base A l cp xs n i _ HF2.out.own HLN.out).mono ?_
  obtain ⟨kb, cb, xb, yb, ob, hv⟩ := takeVal_form xs n i
  rw [HB.out]
  rw [hv]
  rintro e w4 ⟨rfl, hO, hM⟩
  have HF3 := Lib.hid (HF2.out.call hO hM)
  have HV := Lib.hid hv
  clear hO hM hv HF2
  have HF8 := Lib.hid (HF3.out.keep ((Only.refl Nil w4).alloc (.cells #[.int .i64 kb, .int .i64 cb, .int .u32 xb, .int .u32 yb, .int .u32 ob] 39)))
  have HN8 := Lib.hid (Row.new w4 39 #[.int .i64 kb, .int .i64 cb, .int .u32 xb, .int .u32 yb, .int .u32 ob])
  have HG := Lib.hid (show B + 1 + 1 + 1 < w4.heap.size from HF3.out.ra.lt)
  have hz : Value.agg #[.int .i64 kb, .int .i64 cb, .int .u32 xb, .int .u32 yb, .int .u32 ob] = .agg #[.int .i64 0, .int .i64 0, .int .u32 0, .int .u32 0, .int .u32 0] := by rw [← HV.out, takeVal, HB.out]; rfl
  have HZ := Lib.hid hz
  clear hz
  have c0 : (w4.alloc (.cells #[.int .i64 kb, .int .i64 cb, .int .u32 xb, .int .u32 yb, .int .u32 ob] 39)).cell? ⟨B + 1 + 1 + 1, 0, none⟩ = some (.int .i64 0) := HF8.out.ra.cell_ (i := 0) rfl
  have c1 : (w4.alloc (.cells #[.int .i64 kb, .int .i64 cb, .int .u32 xb, .int .u32 yb, .int .u32 ob] 39)).cell? ⟨B + 1 + 1 + 1, 1, none⟩ = some (.int .i64 0) := HF8.out.ra.cell_ (i := 1) rfl
  have c2 : (w4.alloc (.cells #[.int .i64 kb, .int .i64 cb, .int .u32 xb, .int .u32 yb, .int .u32 ob] 39)).cell? ⟨B + 1 + 1 + 1, 2, none⟩ = some (.int .u32 0) := HF8.out.ra.cell_ (i := 2) rfl
  have c3 : (w4.alloc (.cells #[.int .i64 kb, .int .i64 cb, .int .u32 xb, .int .u32 yb, .int .u32 ob] 39)).cell? ⟨B + 1 + 1 + 1, 3, none⟩ = some (.int .u32 0) := HF8.out.ra.cell_ (i := 3) rfl
  have c4 : (w4.alloc (.cells #[.int .i64 kb, .int .i64 cb, .int .u32 xb, .int .u32 yb, .int .u32 ob] 39)).cell? ⟨B + 1 + 1 + 1, 4, none⟩ = some (.int .u32 0) := HF8.out.ra.cell_ (i := 4) rfl
  go_upto_region 23 with (fail)
  clear c0 c1 c2 c3 c4
  generalize w4.alloc (.cells #[.int .i64 kb, .int .i64 cb, .int .u32 xb, .int .u32 yb, .int .u32 ob] 39) = w8 at *
  generalize w4.heap.size = g at *
  have c0 : w8.cell? ⟨B + 1 + 1 + 1, 0, none⟩ = some (.int .i64 0) := HF8.out.ra.cell_ (i := 0) rfl
  have c1 : w8.cell? ⟨B + 1 + 1 + 1, 1, none⟩ = some (.int .i64 0) := HF8.out.ra.cell_ (i := 1) rfl
  have c2 : w8.cell? ⟨B + 1 + 1 + 1, 2, none⟩ = some (.int .u32 0) := HF8.out.ra.cell_ (i := 2) rfl
  have c3 : w8.cell? ⟨B + 1 + 1 + 1, 3, none⟩ = some (.int .u32 0) := HF8.out.ra.cell_ (i := 3) rfl
  have c4 : w8.cell? ⟨B + 1 + 1 + 1, 4, none⟩ = some (.int .u32 0) := HF8.out.ra.cell_ (i := 4) rfl
  have g0 : w8.frozen? ⟨B + 1 + 1 + 1, 0, none⟩ = false := HF8.out.ra.frozen 0
  have g1 : w8.frozen? ⟨B + 1 + 1 + 1, 1, none⟩ = false := HF8.out.ra.frozen 1
  have g2 : w8.frozen? ⟨B + 1 + 1 + 1, 2, none⟩ = false := HF8.out.ra.frozen 2
  have g3 : w8.frozen? ⟨B + 1 + 1 + 1, 3, none⟩ = false := HF8.out.ra.frozen 3
  have g4 : w8.frozen? ⟨B + 1 + 1 + 1, 4, none⟩ = false := HF8.out.ra.frozen 4
  have n0 : w8.cell? ⟨B + 1 + 1, 0, none⟩ = some (.int .i64 0) := HF8.out.rn.cell_ (i := 0) rfl
  have m0 : w8.frozen? ⟨B + 1 + 1, 0, none⟩ = false := HF8.out.rn.frozen 0
  go_wp2
  have HF7 := Lib.hid ((HF8.out.setN 3).setA (.int .i64 0) (.int .i64 0) (.int .u32 0) (.int .u32 0) (.int .u32 0))
  refine post_two_tmps (P := Tryz.prog) Tryz.results74 (by rfl) HF7.out.rn Tryz.underlying25 rfl (by kernel_rfl) (by rfl) HF7.out.ra Tryz.underlying39 rfl (by kernel_rfl) rfl ⟨?_, HF7.out.only, HF7.out.own⟩
  rw [HV.out, HZ.out]; rfl
theorem rstep_any (base : Nat) (A : Option Addr) (l cp : Nat) (xs : List Int) (n mode i s c k m x : Int) (w : World) (h : Own w base A cp xs) (hn : xs.length = l) (hx : Words xs) :
    Calls Tryz.prog 74 #[.slice A l cp, .int .i64 n, .int .i64 mode, .int .i64 i, .agg #[.int .i64 s], .int .i64 c, .agg #[.int .i64 k, .int .u32 m, .int .u32 x]] w (RStepped base A cp (stepI xs n mode i s c (uIs k m x)) w) := by
  by_cases hm : mode = 2
  · subst hm
    by_cases h1 : s = 1
    · subst h1; exact rstep_1 base A l cp xs n i c k m x w h hn hx
    by_cases h2 : s = 2
    · subst h2
      rw [stepI_2]
      cases hb : uIs k m x (wordAt xs c)
      · exact rstep_2_no base A l cp xs n i c k m x w h hn hx hb
      · exact rstep_2_yes base A l cp xs n i c k m x w h hn hx hb
    by_cases h3 : s = 3
    · subst h3
      rw [stepI_3]
      cases hb : hasP xs n i
      · exact rstep_3_no base A l cp xs n i c k m x w h hn hx hb
      · exact rstep_3_yes base A l cp xs n i c k m x w h hn hx hb
    by_cases h4 : s = 4
    · subst h4; exact rstep_4 base A l cp xs n i c k m x w h hn hx
    rw [stepI_0 h1 h2 h3 h4]
    cases hb : uIs k m x (wordAt xs c)
    · by_cases h0 : s < 0
      · exact rstep_low_no base A l cp xs n i s c k m x w h hn hx h0 hb
      by_cases h5 : 4 < s
      · exact rstep_high_no base A l cp xs n i s c k m x w h hn hx h5 hb
      obtain rfl : s = 0 := by omega
      exact rstep_zero_no base A l cp xs n i c k m x w h hn hx hb
    · by_cases h0 : s < 0
      · exact rstep_low_yes base A l cp xs n i s c k m x w h hn hx h0 hb
      by_cases h5 : 4 < s
      · exact rstep_high_yes base A l cp xs n i s c k m x w h hn hx h5 hb
      obtain rfl : s = 0 := by omega
      exact rstep_zero_yes base A l cp xs n i c k m x w h hn hx hb
  · rw [stepI_spin hm]
    cases hb : uIs k m x (wordAt xs c)
    · exact rstep_spin_no base A l cp xs n mode i s c k m x w h hn hx hm hb
    · exact rstep_spin_yes base A l cp xs n mode i s c k m x w h hn hx hm hb
end Go.Proofs.YtaeninikaalkjaaGreat
