import Derived.Deep.Cut
import Derived.IntWalk
import Derived.Test.YtaeninikaalkjaaGreatH26
import Derived.Test.YtaeninikaalkjaaGreatH6
import Derived.Test.YtaeninikaalkjaaGreatH14
import Derived.Test.YtaeninikaalkjaaGreatH5
set_option linter.unusedVariables false
set_option linter.unusedSimpArgs false
namespace Go.Proofs.YtaeninikaalkjaaGreat
open Go.RowKit
def RStept (base : Nat) (A : Option Addr) (cp : Nat) (r : WakeR) (w : World) (e : Ending) (w' : World) : Prop :=
  e = .returned (.tuple #[r.next.v, r.acc]) ∧ Only (At A) w w' ∧ Own w' base A cp r.xs
structure RK (w0 : World) (base : Nat) (A : Option Addr) (cp : Nat) (B : Nat) (kv nv acs : Array Value) (W : World) (xs : List Int) : Prop where
  only : Only (At A) w0 W
  own : Own W base A cp xs
  rk : Row W B 27 kv
  rn : Row W (B + 1) 27 nv
  ra : Row W (B + 1 + 1) 39 acs
  lt : ∀ j, At A j → j < B
  hw : w0.heap.size ≤ B
section
variable {w0 W W' : World} {A : Option Addr} {base cp B g : Nat} {kv nv acs : Array Value} {xs ys : List Int}
theorem RK.call (h : RK w0 base A cp B kv nv acs W xs) (ho : Only (At A) W W') (hm : Own W' base A cp ys) : RK w0 base A cp B kv nv acs W' ys :=
  ⟨h.only.trans ho, hm, h.rk.only ho (fun e => by have := h.lt _ e; omega), h.rn.only ho (fun e => by have := h.lt _ e; omega), h.ra.only ho (fun e => by have := h.lt _ e; omega), h.lt, h.hw⟩
theorem RK.keep (h : RK w0 base A cp B kv nv acs W xs) (ho : Only Nil W W') : RK w0 base A cp B kv nv acs W' xs := h.call (ho.mono (fun _ _ h => h.elim)) (h.own.only ho (fun _ _ => id))
theorem RK.far (h : RK w0 base A cp B kv nv acs W xs) (ho : Only (· = g) W W') (hg : B + 1 + 1 < g) : RK w0 base A cp B kv nv acs W' xs :=
  ⟨h.only.step ho (fun i hi e => by have := h.hw; omega), h.own.only ho (fun j hj e => by have := h.lt j hj; omega), h.rk.only ho (fun e => by omega), h.rn.only ho (fun e => by omega), h.ra.only ho (fun e => by omega), h.lt, h.hw⟩
theorem RK.setN {a0 a1 a2 a3 : Value} (h : RK w0 base A cp B kv #[a0, a1, a2, a3] acs W xs) (v0 v1 v2 v3 : Value) :
    RK w0 base A cp B kv #[v0, v1, v2, v3] acs ((((W.setCell ⟨B + 1, 0, none⟩ v0).setCell ⟨B + 1, 1, none⟩ v1).setCell ⟨B + 1, 2, none⟩ v2).setCell ⟨B + 1, 3, none⟩ v3) xs := by
  have ho := four_only (Only.refl (· = B + 1) W) (g := B + 1) (.inr rfl) v0 v1 v2 v3
  exact ⟨four_only h.only (.inl (by have := h.hw; omega)) _ _ _ _, h.own.only ho (fun j hj e => by have := h.lt j hj; omega), h.rk.only ho (fun e => by omega), four h.rn _ _ _ _, h.ra.only ho (fun e => by omega), h.lt, h.hw⟩
theorem RK.setA {a0 a1 a2 a3 a4 : Value} (h : RK w0 base A cp B kv nv #[a0, a1, a2, a3, a4] W xs) (v0 v1 v2 v3 v4 : Value) :
    RK w0 base A cp B kv nv #[v0, v1, v2, v3, v4] (((((W.setCell ⟨B + 1 + 1, 0, none⟩ v0).setCell ⟨B + 1 + 1, 1, none⟩ v1).setCell ⟨B + 1 + 1, 2, none⟩ v2).setCell ⟨B + 1 + 1, 3, none⟩ v3).setCell ⟨B + 1 + 1, 4, none⟩ v4) xs := by
  have ho := five_only (Only.refl (· = B + 1 + 1) W) (g := B + 1 + 1) (.inr rfl) v0 v1 v2 v3 v4
  exact ⟨five_only h.only (.inl (by have := h.hw; omega)) _ _ _ _ _, h.own.only ho (fun j hj e => by have := h.lt j hj; omega), h.rk.only ho (fun e => by omega), h.rn.only ho (fun e => by omega), five h.ra _ _ _ _ _, h.lt, h.hw⟩
theorem RK.setH {a0 a1 a2 a3 : Value} (h : RK w0 base A cp B #[a0, a1, a2, a3] nv acs W xs) (v : Value) :
    RK w0 base A cp B #[a0, a1, a2, v] nv acs (W.setCell ⟨B, 3, none⟩ v) xs := by
  have ho := (Only.refl (· = B) W).setCell (p := ⟨B, 3, none⟩) (.inr rfl) v
  exact ⟨h.only.setCell (.inl (by have := h.hw; exact this)) _, h.own.only ho (fun j hj e => by have := h.lt j hj; omega), by simpa using h.rk.set 3 v, h.rn.only ho (fun e => by omega), h.ra.only ho (fun e => by omega), h.lt, h.hw⟩
theorem RK.start {w : World} {A : Option Addr} {base cp : Nat} {xs : List Int} (kv : Array Value) (h : Own w base A cp xs) :
    RK w base A cp w.heap.size kv #[.bool false, .int .i64 0, .int .i64 0, .bool false] #[.int .i64 0, .int .i64 0, .int .u32 0, .int .u32 0, .int .u32 0] (((w.alloc (.cells kv 27)).alloc (.cells #[.bool false, .int .i64 0, .int .i64 0, .bool false] 27)).alloc (.cells #[.int .i64 0, .int .i64 0, .int .u32 0, .int .u32 0, .int .u32 0] 39)) xs := by
  have e0 := (((Only.refl Nil w).alloc (.cells kv 27)).alloc (.cells #[.bool false, .int .i64 0, .int .i64 0, .bool false] 27)).alloc (.cells #[.int .i64 0, .int .i64 0, .int .u32 0, .int .u32 0, .int .u32 0] 39)
  refine ⟨e0.mono (fun _ _ h => h.elim), h.only e0 (fun _ _ => id), ((Row.new w _ _).alloc _).alloc _, (Row.new2 w _ _ _).alloc _, ?_, h.lt, Nat.le_refl _⟩
  have e := Row.new2 (w.alloc (.cells kv 27)) (.cells #[.bool false, .int .i64 0, .int .i64 0, .bool false] 27) 39 #[.int .i64 0, .int .i64 0, .int .u32 0, .int .u32 0, .int .u32 0]
  rwa [show (w.alloc (.cells kv 27)).heap.size = w.heap.size + 1 by simp] at e
end
theorem rw_off (base : Nat) (A : Option Addr) (l cp : Nat) (xs : List Int) (n c i : Int) (hit : Bool) (w : World) (h : Own w base A cp xs) :
    Calls Tryz.prog 32 #[.slice A l cp, .int .i64 n, .agg #[.bool false, .int .i64 c, .int .i64 i, .bool hit]] w (RStept base A cp (restI xs) w) := by
  have HF0 := Lib.hid (RK.start #[.bool false, .int .i64 c, .int .i64 i, .bool hit] h)
  clear h
  go_enter Tryz.func32, Tryz.ntmps32
  go_wp2
  exact post_two (P := Tryz.prog) Tryz.results32 (by rfl) HF0.out.rn Tryz.underlying27 rfl (by kernel_rfl) (by rfl) HF0.out.ra Tryz.underlying39 rfl (by kernel_rfl) rfl ⟨rfl, HF0.out.only, HF0.out.own⟩
theorem rw_bad (base : Nat) (A : Option Addr) (l cp : Nat) (xs : List Int) (n c i : Int) (hit : Bool) (w : World) (h : Own w base A cp xs) (hn : xs.length = l) (hd : decide (cellI n 2 i < 0) = true) :
    Calls Tryz.prog 32 #[.slice A l cp, .int .i64 n, .agg #[.bool true, .int .i64 c, .int .i64 i, .bool hit]] w (RStept base A cp (restI xs) w) := by
  have HF0 := Lib.hid (RK.start #[.bool true, .int .i64 c, .int .i64 i, .bool hit] h)
  have HLN := Lib.hid hn
  clear h hn
  go_enter Tryz.func32, Tryz.ntmps32
  go_wp2_with fail
  refine (refCell_any n 2 i _ (by omega)).mono ?_
  rintro e w1 ⟨rfl, rfl⟩
  go_wp2
  exact post_two (P := Tryz.prog) Tryz.results32 (by rfl) HF0.out.rn Tryz.underlying27 rfl (by kernel_rfl) (by rfl) HF0.out.ra Tryz.underlying39 rfl (by kernel_rfl) rfl ⟨rfl, HF0.out.only, HF0.out.own⟩
theorem rw_give_no (base : Nat) (A : Option Addr) (l cp : Nat) (xs : List Int) (n c i : Int) (w : World) (h : Own w base A cp xs) (hn : xs.length = l) (hd : decide (cellI n 2 i < 0) = false) (ht : there xs (pc n i) = false) :
    Calls Tryz.prog 32 #[.slice A l cp, .int .i64 n, .agg #[.bool true, .int .i64 c, .int .i64 i, .bool true]] w (RStept base A cp ⟨wk0, accOf 0 0 0 0 0, st xs (pc n i) 1⟩ w) := by
  have HT := Lib.hid ht
  clear ht
  have HF0 := Lib.hid (RK.start #[.bool true, .int .i64 c, .int .i64 i, .bool true] h)
  have HLN := Lib.hid hn
  clear h hn
  go_enter Tryz.func32, Tryz.ntmps32
  go_wp2_with fail
  refine (refCell_any n 2 i _ (by omega)).mono ?_
  rintro e w1 ⟨rfl, rfl⟩
  go_wp2_with fail
  have e0 := (Only.refl Nil (((w.alloc (.cells #[.bool true, .int .i64 c, .int .i64 i, .bool true] 27)).alloc (.cells #[.bool false, .int .i64 0, .int .i64 0, .bool false] 27)).alloc (.cells #[.int .i64 0, .int .i64 0, .int .u32 0, .int .u32 0, .int .u32 0] 39))).alloc (.cells #[.int .i64 0, .int .i64 0, .int .u32 0, .int .u32 0, .int .u32 0] 39)
  have HF1 := Lib.hid (HF0.out.keep e0)
  have HN := Lib.hid (Row.new (((w.alloc (.cells #[.bool true, .int .i64 c, .int .i64 i, .bool true] 27)).alloc (.cells #[.bool false, .int .i64 0, .int .i64 0, .bool false] 27)).alloc (.cells #[.int .i64 0, .int .i64 0, .int .u32 0, .int .u32 0, .int .u32 0] 39)) 39 #[.int .i64 0, .int .i64 0, .int .u32 0, .int .u32 0, .int .u32 0])
  rw [show (((w.alloc (.cells #[.bool true, .int .i64 c, .int .i64 i, .bool true] 27)).alloc (.cells #[.bool false, .int .i64 0, .int .i64 0, .bool false] 27)).alloc (.cells #[.int .i64 0, .int .i64 0, .int .u32 0, .int .u32 0, .int .u32 0] 39)).heap.size = w.heap.size + 1 + 1 + 1 by simp] at HN
  clear e0 HF0
  generalize (((w.alloc (.cells #[.bool true, .int .i64 c, .int .i64 i, .bool true] 27)).alloc (.cells #[.bool false, .int .i64 0, .int .i64 0, .bool false] 27)).alloc (.cells #[.int .i64 0, .int .i64 0, .int .u32 0, .int .u32 0, .int .u32 0] 39)).alloc (.cells #[.int .i64 0, .int .i64 0, .int .u32 0, .int .u32 0, .int .u32 0] 39) = w1 at *
  generalize w.heap.size = B at *
  refine (rgive_any base A l cp xs n i _ HF1.out.own HLN.out).mono ?_
  obtain ⟨ka, ca, xa, ya, hv⟩ := doVal_form xs 2 (pc n i) 1 0
  generalize (if doOk xs 2 (pc n i) then wordAt xs (pc n i) else 0) = oa at hv
  rw [hv, HT.out]
  rintro e w2 ⟨rfl, hO, hM⟩
  have HN1 := Lib.hid (HN.out.only hO (fun e => by have := HF1.out.lt _ e; omega))
  have HF2 := Lib.hid (HF1.out.call hO hM)
  have HV := Lib.hid hv
  clear hO hM hv HF1 HN
  have r0 : w2.cell? ⟨B + 1 + 1 + 1, 0, none⟩ = some (.int .i64 0) := HN1.out.cell_ (i := 0) rfl
  have r1 : w2.cell? ⟨B + 1 + 1 + 1, 1, none⟩ = some (.int .i64 0) := HN1.out.cell_ (i := 1) rfl
  have r2 : w2.cell? ⟨B + 1 + 1 + 1, 2, none⟩ = some (.int .u32 0) := HN1.out.cell_ (i := 2) rfl
  have r3 : w2.cell? ⟨B + 1 + 1 + 1, 3, none⟩ = some (.int .u32 0) := HN1.out.cell_ (i := 3) rfl
  have r4 : w2.cell? ⟨B + 1 + 1 + 1, 4, none⟩ = some (.int .u32 0) := HN1.out.cell_ (i := 4) rfl
  have q0 : w2.frozen? ⟨B + 1 + 1 + 1, 0, none⟩ = false := HN1.out.frozen 0
  have q1 : w2.frozen? ⟨B + 1 + 1 + 1, 1, none⟩ = false := HN1.out.frozen 1
  have q2 : w2.frozen? ⟨B + 1 + 1 + 1, 2, none⟩ = false := HN1.out.frozen 2
  have q3 : w2.frozen? ⟨B + 1 + 1 + 1, 3, none⟩ = false := HN1.out.frozen 3
  have q4 : w2.frozen? ⟨B + 1 + 1 + 1, 4, none⟩ = false := HN1.out.frozen 4
  have HN2 := Lib.hid (five HN1.out (.int .i64 ka) (.int .i64 ca) (.int .u32 xa) (.int .u32 ya) (.int .u32 oa))
  have HF3 := Lib.hid (HF2.out.far (five_only (Only.refl (· = B + 1 + 1 + 1) w2) (g := B + 1 + 1 + 1) (.inr rfl) (.int .i64 ka) (.int .i64 ca) (.int .u32 xa) (.int .u32 ya) (.int .u32 oa)) (by omega))
  clear HN1 HF2
  go_upto_region 7 with (fail)
  clear r0 r1 r2 r3 r4 q0 q1 q2 q3 q4
  generalize (((((w2.setCell ⟨B + 1 + 1 + 1, 0, none⟩ (.int .i64 ka)).setCell ⟨B + 1 + 1 + 1, 1, none⟩ (.int .i64 ca)).setCell ⟨B + 1 + 1 + 1, 2, none⟩ (.int .u32 xa)).setCell ⟨B + 1 + 1 + 1, 3, none⟩ (.int .u32 ya)).setCell ⟨B + 1 + 1 + 1, 4, none⟩ (.int .u32 oa)) = w3 at *
  have n0 : w3.cell? ⟨B + 1, 0, none⟩ = some (.bool false) := HF3.out.rn.cell_ (i := 0) rfl
  have n1 : w3.cell? ⟨B + 1, 1, none⟩ = some (.int .i64 0) := HF3.out.rn.cell_ (i := 1) rfl
  have n2 : w3.cell? ⟨B + 1, 2, none⟩ = some (.int .i64 0) := HF3.out.rn.cell_ (i := 2) rfl
  have n3 : w3.cell? ⟨B + 1, 3, none⟩ = some (.bool false) := HF3.out.rn.cell_ (i := 3) rfl
  have m0 : w3.frozen? ⟨B + 1, 0, none⟩ = false := HF3.out.rn.frozen 0
  have m1 : w3.frozen? ⟨B + 1, 1, none⟩ = false := HF3.out.rn.frozen 1
  have m2 : w3.frozen? ⟨B + 1, 2, none⟩ = false := HF3.out.rn.frozen 2
  have m3 : w3.frozen? ⟨B + 1, 3, none⟩ = false := HF3.out.rn.frozen 3
  have r0 : w3.cell? ⟨B + 1 + 1, 0, none⟩ = some (.int .i64 0) := HF3.out.ra.cell_ (i := 0) rfl
  have r1 : w3.cell? ⟨B + 1 + 1, 1, none⟩ = some (.int .i64 0) := HF3.out.ra.cell_ (i := 1) rfl
  have r2 : w3.cell? ⟨B + 1 + 1, 2, none⟩ = some (.int .u32 0) := HF3.out.ra.cell_ (i := 2) rfl
  have r3 : w3.cell? ⟨B + 1 + 1, 3, none⟩ = some (.int .u32 0) := HF3.out.ra.cell_ (i := 3) rfl
  have r4 : w3.cell? ⟨B + 1 + 1, 4, none⟩ = some (.int .u32 0) := HF3.out.ra.cell_ (i := 4) rfl
  have q0 : w3.frozen? ⟨B + 1 + 1, 0, none⟩ = false := HF3.out.ra.frozen 0
  have q1 : w3.frozen? ⟨B + 1 + 1, 1, none⟩ = false := HF3.out.ra.frozen 1
  have q2 : w3.frozen? ⟨B + 1 + 1, 2, none⟩ = false := HF3.out.ra.frozen 2
  have q3 : w3.frozen? ⟨B + 1 + 1, 3, none⟩ = false := HF3.out.ra.frozen 3
  have q4 : w3.frozen? ⟨B + 1 + 1, 4, none⟩ = false := HF3.out.ra.frozen 4
  go_wp2
  have HF4 := Lib.hid ((HF3.out.setN (.bool false) (.int .i64 0) (.int .i64 0) (.bool false)).setA (.int .i64 0) (.int .i64 0) (.int .u32 0) (.int .u32 0) (.int .u32 0))
  exact post_two (P := Tryz.prog) Tryz.results32 (by rfl) HF4.out.rn Tryz.underlying27 rfl (by kernel_rfl) (by rfl) HF4.out.ra Tryz.underlying39 rfl (by kernel_rfl) rfl ⟨rfl, HF4.out.only, HF4.out.own⟩
set_option maxHeartbeats 400000 in
theorem rw_give_end (base : Nat) (A : Option Addr) (l cp : Nat) (xs : List Int) (n c i : Int) (w : World) (h : Own w base A cp xs) (hn : xs.length = l) (hd : decide (cellI n 2 i < 0) = false) (ht : there xs (pc n i) = true) (b1 : 0 ≤ i) (b2 : i < 64) (b3 : n ≤ i + 1) :
    Calls Tryz.prog 32 #[.slice A l cp, .int .i64 n, .agg #[.bool true, .int .i64 c, .int .i64 i, .bool true]] w (RStept base A cp ⟨wk0, doVal xs 2 (pc n i) 1 0, st xs (pc n i) 1⟩ w) := by
  have HT := Lib.hid ht
  clear ht
  have HF0 := Lib.hid (RK.start #[.bool true, .int .i64 c, .int .i64 i, .bool true] h)
  have HLN := Lib.hid hn
  clear h hn
  go_enter Tryz.func32, Tryz.ntmps32
  go_wp2_with fail
  refine (refCell_any n 2 i _ (by omega)).mono ?_
  rintro e w1 ⟨rfl, rfl⟩
  go_wp2_with fail
  have e0 := (Only.refl Nil (((w.alloc (.cells #[.bool true, .int .i64 c, .int .i64 i, .bool true] 27)).alloc (.cells #[.bool false, .int .i64 0, .int .i64 0, .bool false] 27)).alloc (.cells #[.int .i64 0, .int .i64 0, .int .u32 0, .int .u32 0, .int .u32 0] 39))).alloc (.cells #[.int .i64 0, .int .i64 0, .int .u32 0, .int .u32 0, .int .u32 0] 39)
  have HF1 := Lib.hid (HF0.out.keep e0)
  have HN := Lib.hid (Row.new (((w.alloc (.cells #[.bool true, .int .i64 c, .int .i64 i, .bool true] 27)).alloc (.cells #[.bool false, .int .i64 0, .int .i64 0, .bool false] 27)).alloc (.cells #[.int .i64 0, .int .i64 0, .int .u32 0, .int .u32 0, .int .u32 0] 39)) 39 #[.int .i64 0, .int .i64 0, .int .u32 0, .int .u32 0, .int .u32 0])
  rw [show (((w.alloc (.cells #[.bool true, .int .i64 c, .int .i64 i, .bool true] 27)).alloc (.cells #[.bool false, .int .i64 0, .int .i64 0, .bool false] 27)).alloc (.cells #[.int .i64 0, .int .i64 0, .int .u32 0, .int .u32 0, .int .u32 0] 39)).heap.size = w.heap.size + 1 + 1 + 1 by simp] at HN
  clear e0 HF0
  generalize (((w.alloc (.cells #[.bool true, .int .i64 c, .int .i64 i, .bool true] 27)).alloc (.cells #[.bool false, .int .i64 0, .int .i64 0, .bool false] 27)).alloc (.cells #[.int .i64 0, .int .i64 0, .int .u32 0, .int .u32 0, .int .u32 0] 39)).alloc (.cells #[.int .i64 0, .int .i64 0, .int .u32 0, .int .u32 0, .int .u32 0] 39) = w1 at *
  generalize w.heap.size = B at *
  refine (rgive_any base A l cp xs n i _ HF1.out.own HLN.out).mono ?_
  obtain ⟨ka, ca, xa, ya, hv⟩ := doVal_form xs 2 (pc n i) 1 0
  generalize (if doOk xs 2 (pc n i) then wordAt xs (pc n i) else 0) = oa at hv
  rw [hv, HT.out]
  rintro e w2 ⟨rfl, hO, hM⟩
  have HN1 := Lib.hid (HN.out.only hO (fun e => by have := HF1.out.lt _ e; omega))
  have HF2 := Lib.hid (HF1.out.call hO hM)
  have HV := Lib.hid hv
  clear hO hM hv HF1 HN
  have r0 : w2.cell? ⟨B + 1 + 1 + 1, 0, none⟩ = some (.int .i64 0) := HN1.out.cell_ (i := 0) rfl
  have r1 : w2.cell? ⟨B + 1 + 1 + 1, 1, none⟩ = some (.int .i64 0) := HN1.out.cell_ (i := 1) rfl
  have r2 : w2.cell? ⟨B + 1 + 1 + 1, 2, none⟩ = some (.int .u32 0) := HN1.out.cell_ (i := 2) rfl
  have r3 : w2.cell? ⟨B + 1 + 1 + 1, 3, none⟩ = some (.int .u32 0) := HN1.out.cell_ (i := 3) rfl
  have r4 : w2.cell? ⟨B + 1 + 1 + 1, 4, none⟩ = some (.int .u32 0) := HN1.out.cell_ (i := 4) rfl
  have q0 : w2.frozen? ⟨B + 1 + 1 + 1, 0, none⟩ = false := HN1.out.frozen 0
  have q1 : w2.frozen? ⟨B + 1 + 1 + 1, 1, none⟩ = false := HN1.out.frozen 1
  have q2 : w2.frozen? ⟨B + 1 + 1 + 1, 2, none⟩ = false := HN1.out.frozen 2
  have q3 : w2.frozen? ⟨B + 1 + 1 + 1, 3, none⟩ = false := HN1.out.frozen 3
  have q4 : w2.frozen? ⟨B + 1 + 1 + 1, 4, none⟩ = false := HN1.out.frozen 4
  have HN2 := Lib.hid (five HN1.out (.int .i64 ka) (.int .i64 ca) (.int .u32 xa) (.int .u32 ya) (.int .u32 oa))
  have HF3 := Lib.hid (HF2.out.far (five_only (Only.refl (· = B + 1 + 1 + 1) w2) (g := B + 1 + 1 + 1) (.inr rfl) (.int .i64 ka) (.int .i64 ca) (.int .u32 xa) (.int .u32 ya) (.int .u32 oa)) (by omega))
  clear HN1 HF2
  go_upto_region 7 with (fail)
  clear r0 r1 r2 r3 r4 q0 q1 q2 q3 q4
  generalize (((((w2.setCell ⟨B + 1 + 1 + 1, 0, none⟩ (.int .i64 ka)).setCell ⟨B + 1 + 1 + 1, 1, none⟩ (.int .i64 ca)).setCell ⟨B + 1 + 1 + 1, 2, none⟩ (.int .u32 xa)).setCell ⟨B + 1 + 1 + 1, 3, none⟩ (.int .u32 ya)).setCell ⟨B + 1 + 1 + 1, 4, none⟩ (.int .u32 oa)) = w3 at *
  have k0 : w3.cell? ⟨B, 0, none⟩ = some (.bool true) := HF3.out.rk.cell_ (i := 0) rfl
  have k1 : w3.cell? ⟨B, 1, none⟩ = some (.int .i64 c) := HF3.out.rk.cell_ (i := 1) rfl
  have k2 : w3.cell? ⟨B, 2, none⟩ = some (.int .i64 i) := HF3.out.rk.cell_ (i := 2) rfl
  have k3 : w3.cell? ⟨B, 3, none⟩ = some (.bool true) := HF3.out.rk.cell_ (i := 3) rfl
  skip
  go_wp2_with fail
  clear k0 k1 k2 k3
  have a0 : w3.cell? ⟨B + 1 + 1 + 1, 0, none⟩ = some (.int .i64 ka) := HN2.out.cell_ (i := 0) rfl
  have a1 : w3.cell? ⟨B + 1 + 1 + 1, 1, none⟩ = some (.int .i64 ca) := HN2.out.cell_ (i := 1) rfl
  have a2 : w3.cell? ⟨B + 1 + 1 + 1, 2, none⟩ = some (.int .u32 xa) := HN2.out.cell_ (i := 2) rfl
  have a3 : w3.cell? ⟨B + 1 + 1 + 1, 3, none⟩ = some (.int .u32 ya) := HN2.out.cell_ (i := 3) rfl
  have a4 : w3.cell? ⟨B + 1 + 1 + 1, 4, none⟩ = some (.int .u32 oa) := HN2.out.cell_ (i := 4) rfl
  have k0 : w3.cell? ⟨B, 0, none⟩ = some (.bool true) := HF3.out.rk.cell_ (i := 0) rfl
  have k1 : w3.cell? ⟨B, 1, none⟩ = some (.int .i64 c) := HF3.out.rk.cell_ (i := 1) rfl
  have k2 : w3.cell? ⟨B, 2, none⟩ = some (.int .i64 i) := HF3.out.rk.cell_ (i := 2) rfl
  have k3 : w3.cell? ⟨B, 3, none⟩ = some (.bool true) := HF3.out.rk.cell_ (i := 3) rfl
  refine wp_region_held_drew (S := fun w' => (w'.cell? ⟨B, 0, none⟩ = some (.bool true) ∧ w'.cell? ⟨B, 1, none⟩ = some (.int .i64 c) ∧ w'.cell? ⟨B, 2, none⟩ = some (.int .i64 i) ∧ w'.cell? ⟨B, 3, none⟩ = some (.bool true)) ∧ w'.cell? ⟨B + 1 + 1 + 1, 0, none⟩ = some (.int .i64 ka) ∧ w'.cell? ⟨B + 1 + 1 + 1, 1, none⟩ = some (.int .i64 ca) ∧ w'.cell? ⟨B + 1 + 1 + 1, 2, none⟩ = some (.int .u32 xa) ∧ w'.cell? ⟨B + 1 + 1 + 1, 3, none⟩ = some (.int .u32 ya) ∧ w'.cell? ⟨B + 1 + 1 + 1, 4, none⟩ = some (.int .u32 oa)) (by kernel_rfl) ⟨⟨k0, k1, k2, k3⟩, a0, a1, a2, a3, a4⟩ (fun hHeld => ?_)
  have HF6 := Lib.hid (HF3.out.keep (Only.refl Nil w3).drew)
  have HN6 := Lib.hid HN2.out.drew
  clear a0 a1 a2 a3 a4 k0 k1 k2 k3 HF3 HN2
  generalize w3.drew = w6 at *
  refine zk 0 rfl ?_
  refine zk 1 rfl ?_
  have n0 : w6.cell? ⟨B + 1, 0, none⟩ = some (.bool false) := HF6.out.rn.cell_ (i := 0) rfl
  have n1 : w6.cell? ⟨B + 1, 1, none⟩ = some (.int .i64 0) := HF6.out.rn.cell_ (i := 1) rfl
  have n2 : w6.cell? ⟨B + 1, 2, none⟩ = some (.int .i64 0) := HF6.out.rn.cell_ (i := 2) rfl
  have n3 : w6.cell? ⟨B + 1, 3, none⟩ = some (.bool false) := HF6.out.rn.cell_ (i := 3) rfl
  have m0 : w6.frozen? ⟨B + 1, 0, none⟩ = false := HF6.out.rn.frozen 0
  have m1 : w6.frozen? ⟨B + 1, 1, none⟩ = false := HF6.out.rn.frozen 1
  have m2 : w6.frozen? ⟨B + 1, 2, none⟩ = false := HF6.out.rn.frozen 2
  have m3 : w6.frozen? ⟨B + 1, 3, none⟩ = false := HF6.out.rn.frozen 3
  refine mcl 2 rfl (by kernel_rfl) (by rfl) (fun K hK => ?_)
  go_simp
  have HF7 := Lib.hid (HF6.out.setN (.bool false) (.int .i64 (0)) (.int .i64 (0)) (.bool false))
  have HN7 := Lib.hid (HN6.out.only (four_only (Only.refl (· = B + 1) w6) (g := B + 1) (.inr rfl) (.bool false) (.int .i64 (0)) (.int .i64 (0)) (.bool false)) (by show ¬ B + 1 + 1 + 1 = B + 1; omega))
  refine hK.out _ _ ⟨⟨HF7.out.rk.cell_ (i := 0) rfl, HF7.out.rk.cell_ (i := 1) rfl, HF7.out.rk.cell_ (i := 2) rfl, HF7.out.rk.cell_ (i := 3) rfl⟩, HN7.out.cell_ (i := 0) rfl, HN7.out.cell_ (i := 1) rfl, HN7.out.cell_ (i := 2) rfl, HN7.out.cell_ (i := 3) rfl, HN7.out.cell_ (i := 4) rfl⟩ (fun hHeld2 => ?_)
  clear hK K hHeld n0 n1 n2 n3 m0 m1 m2 m3 HF6 HN6
  generalize (((w6.setCell ⟨B + 1, 0, none⟩ (.bool false)).setCell ⟨B + 1, 1, none⟩ (.int .i64 (0))).setCell ⟨B + 1, 2, none⟩ (.int .i64 (0))).setCell ⟨B + 1, 3, none⟩ (.bool false) = w7 at *
  have r0 : w7.cell? ⟨B + 1 + 1, 0, none⟩ = some (.int .i64 0) := HF7.out.ra.cell_ (i := 0) rfl
  have r1 : w7.cell? ⟨B + 1 + 1, 1, none⟩ = some (.int .i64 0) := HF7.out.ra.cell_ (i := 1) rfl
  have r2 : w7.cell? ⟨B + 1 + 1, 2, none⟩ = some (.int .u32 0) := HF7.out.ra.cell_ (i := 2) rfl
  have r3 : w7.cell? ⟨B + 1 + 1, 3, none⟩ = some (.int .u32 0) := HF7.out.ra.cell_ (i := 3) rfl
  have r4 : w7.cell? ⟨B + 1 + 1, 4, none⟩ = some (.int .u32 0) := HF7.out.ra.cell_ (i := 4) rfl
  have q0 : w7.frozen? ⟨B + 1 + 1, 0, none⟩ = false := HF7.out.ra.frozen 0
  have q1 : w7.frozen? ⟨B + 1 + 1, 1, none⟩ = false := HF7.out.ra.frozen 1
  have q2 : w7.frozen? ⟨B + 1 + 1, 2, none⟩ = false := HF7.out.ra.frozen 2
  have q3 : w7.frozen? ⟨B + 1 + 1, 3, none⟩ = false := HF7.out.ra.frozen 3
  have q4 : w7.frozen? ⟨B + 1 + 1, 4, none⟩ = false := HF7.out.ra.frozen 4
  refine mcl 3 rfl (by kernel_rfl) (by rfl) (fun K hK => ?_)
  go_simp
  have HF8 := Lib.hid (HF7.out.setA (.int .i64 ka) (.int .i64 ca) (.int .u32 xa) (.int .u32 ya) (.int .u32 oa))
  have HN8 := Lib.hid (HN7.out.only (five_only (Only.refl (· = B + 1 + 1) w7) (g := B + 1 + 1) (.inr rfl) (.int .i64 ka) (.int .i64 ca) (.int .u32 xa) (.int .u32 ya) (.int .u32 oa)) (by show ¬ B + 1 + 1 + 1 = B + 1 + 1; omega))
  refine hK.out _ _ ⟨⟨HF8.out.rk.cell_ (i := 0) rfl, HF8.out.rk.cell_ (i := 1) rfl, HF8.out.rk.cell_ (i := 2) rfl, HF8.out.rk.cell_ (i := 3) rfl⟩, HN8.out.cell_ (i := 0) rfl, HN8.out.cell_ (i := 1) rfl, HN8.out.cell_ (i := 2) rfl, HN8.out.cell_ (i := 3) rfl, HN8.out.cell_ (i := 4) rfl⟩ (fun hHeld3 => ?_)
  clear hK K hHeld2 r0 r1 r2 r3 r4 q0 q1 q2 q3 q4 HF7 HN7
  generalize (((((w7.setCell ⟨B + 1 + 1, 0, none⟩ (.int .i64 ka)).setCell ⟨B + 1 + 1, 1, none⟩ (.int .i64 ca)).setCell ⟨B + 1 + 1, 2, none⟩ (.int .u32 xa)).setCell ⟨B + 1 + 1, 3, none⟩ (.int .u32 ya)).setCell ⟨B + 1 + 1, 4, none⟩ (.int .u32 oa)) = w8 at *
  refine wpAnyH_done (by kernel_rfl) ?_ _
  clear hHeld3
  go_wp2
  refine post_two (P := Tryz.prog) Tryz.results32 (by rfl) HF8.out.rn Tryz.underlying27 rfl (by kernel_rfl) (by rfl) HF8.out.ra Tryz.underlying39 rfl (by kernel_rfl) rfl ⟨?_, HF8.out.only, HF8.out.own⟩
  rw [HV.out]; rfl
set_option maxHeartbeats 400000 in
theorem rw_give_on (base : Nat) (A : Option Addr) (l cp : Nat) (xs : List Int) (n c i : Int) (w : World) (h : Own w base A cp xs) (hn : xs.length = l) (hd : decide (cellI n 2 i < 0) = false) (ht : there xs (pc n i) = true) (b1 : 0 ≤ i) (b2 : i < 64) (b3 : i + 1 < n) :
    Calls Tryz.prog 32 #[.slice A l cp, .int .i64 n, .agg #[.bool true, .int .i64 c, .int .i64 i, .bool true]] w (RStept base A cp ⟨⟨true, c, i + 1, false⟩, doVal xs 2 (pc n i) 1 0, st xs (pc n i) 1⟩ w) := by
  have HT := Lib.hid ht
  have hj : IntKind.i64.wrap (i + 1) = i + 1 := IntWalk.i64_in _ (by omega)
  have HJ := Lib.hid hj
  clear ht hj
  have HF0 := Lib.hid (RK.start #[.bool true, .int .i64 c, .int .i64 i, .bool true] h)
  have HLN := Lib.hid hn
  clear h hn
  go_enter Tryz.func32, Tryz.ntmps32
  go_wp2_with fail
  refine (refCell_any n 2 i _ (by omega)).mono ?_
  rintro e w1 ⟨rfl, rfl⟩
  go_wp2_with fail
  have e0 := (Only.refl Nil (((w.alloc (.cells #[.bool true, .int .i64 c, .int .i64 i, .bool true] 27)).alloc (.cells #[.bool false, .int .i64 0, .int .i64 0, .bool false] 27)).alloc (.cells #[.int .i64 0, .int .i64 0, .int .u32 0, .int .u32 0, .int .u32 0] 39))).alloc (.cells #[.int .i64 0, .int .i64 0, .int .u32 0, .int .u32 0, .int .u32 0] 39)
  have HF1 := Lib.hid (HF0.out.keep e0)
  have HN := Lib.hid (Row.new (((w.alloc (.cells #[.bool true, .int .i64 c, .int .i64 i, .bool true] 27)).alloc (.cells #[.bool false, .int .i64 0, .int .i64 0, .bool false] 27)).alloc (.cells #[.int .i64 0, .int .i64 0, .int .u32 0, .int .u32 0, .int .u32 0] 39)) 39 #[.int .i64 0, .int .i64 0, .int .u32 0, .int .u32 0, .int .u32 0])
  rw [show (((w.alloc (.cells #[.bool true, .int .i64 c, .int .i64 i, .bool true] 27)).alloc (.cells #[.bool false, .int .i64 0, .int .i64 0, .bool false] 27)).alloc (.cells #[.int .i64 0, .int .i64 0, .int .u32 0, .int .u32 0, .int .u32 0] 39)).heap.size = w.heap.size + 1 + 1 + 1 by simp] at HN
  clear e0 HF0
  generalize (((w.alloc (.cells #[.bool true, .int .i64 c, .int .i64 i, .bool true] 27)).alloc (.cells #[.bool false, .int .i64 0, .int .i64 0, .bool false] 27)).alloc (.cells #[.int .i64 0, .int .i64 0, .int .u32 0, .int .u32 0, .int .u32 0] 39)).alloc (.cells #[.int .i64 0, .int .i64 0, .int .u32 0, .int .u32 0, .int .u32 0] 39) = w1 at *
  generalize w.heap.size = B at *
  refine (rgive_any base A l cp xs n i _ HF1.out.own HLN.out).mono ?_
  obtain ⟨ka, ca, xa, ya, hv⟩ := doVal_form xs 2 (pc n i) 1 0
  generalize (if doOk xs 2 (pc n i) then wordAt xs (pc n i) else 0) = oa at hv
  rw [hv, HT.out]
  rintro e w2 ⟨rfl, hO, hM⟩
  have HN1 := Lib.hid (HN.out.only hO (fun e => by have := HF1.out.lt _ e; omega))
  have HF2 := Lib.hid (HF1.out.call hO hM)
  have HV := Lib.hid hv
  clear hO hM hv HF1 HN
  have r0 : w2.cell? ⟨B + 1 + 1 + 1, 0, none⟩ = some (.int .i64 0) := HN1.out.cell_ (i := 0) rfl
  have r1 : w2.cell? ⟨B + 1 + 1 + 1, 1, none⟩ = some (.int .i64 0) := HN1.out.cell_ (i := 1) rfl
  have r2 : w2.cell? ⟨B + 1 + 1 + 1, 2, none⟩ = some (.int .u32 0) := HN1.out.cell_ (i := 2) rfl
  have r3 : w2.cell? ⟨B + 1 + 1 + 1, 3, none⟩ = some (.int .u32 0) := HN1.out.cell_ (i := 3) rfl
  have r4 : w2.cell? ⟨B + 1 + 1 + 1, 4, none⟩ = some (.int .u32 0) := HN1.out.cell_ (i := 4) rfl
  have q0 : w2.frozen? ⟨B + 1 + 1 + 1, 0, none⟩ = false := HN1.out.frozen 0
  have q1 : w2.frozen? ⟨B + 1 + 1 + 1, 1, none⟩ = false := HN1.out.frozen 1
  have q2 : w2.frozen? ⟨B + 1 + 1 + 1, 2, none⟩ = false := HN1.out.frozen 2
  have q3 : w2.frozen? ⟨B + 1 + 1 + 1, 3, none⟩ = false := HN1.out.frozen 3
  have q4 : w2.frozen? ⟨B + 1 + 1 + 1, 4, none⟩ = false := HN1.out.frozen 4
  have HN2 := Lib.hid (five HN1.out (.int .i64 ka) (.int .i64 ca) (.int .u32 xa) (.int .u32 ya) (.int .u32 oa))
  have HF3 := Lib.hid (HF2.out.far (five_only (Only.refl (· = B + 1 + 1 + 1) w2) (g := B + 1 + 1 + 1) (.inr rfl) (.int .i64 ka) (.int .i64 ca) (.int .u32 xa) (.int .u32 ya) (.int .u32 oa)) (by omega))
  clear HN1 HF2
  go_upto_region 7 with (fail)
  clear r0 r1 r2 r3 r4 q0 q1 q2 q3 q4
  generalize (((((w2.setCell ⟨B + 1 + 1 + 1, 0, none⟩ (.int .i64 ka)).setCell ⟨B + 1 + 1 + 1, 1, none⟩ (.int .i64 ca)).setCell ⟨B + 1 + 1 + 1, 2, none⟩ (.int .u32 xa)).setCell ⟨B + 1 + 1 + 1, 3, none⟩ (.int .u32 ya)).setCell ⟨B + 1 + 1 + 1, 4, none⟩ (.int .u32 oa)) = w3 at *
  have k0 : w3.cell? ⟨B, 0, none⟩ = some (.bool true) := HF3.out.rk.cell_ (i := 0) rfl
  have k1 : w3.cell? ⟨B, 1, none⟩ = some (.int .i64 c) := HF3.out.rk.cell_ (i := 1) rfl
  have k2 : w3.cell? ⟨B, 2, none⟩ = some (.int .i64 i) := HF3.out.rk.cell_ (i := 2) rfl
  have k3 : w3.cell? ⟨B, 3, none⟩ = some (.bool true) := HF3.out.rk.cell_ (i := 3) rfl
  skip
  go_wp2_with fail
  clear k0 k1 k2 k3
  have a0 : w3.cell? ⟨B + 1 + 1 + 1, 0, none⟩ = some (.int .i64 ka) := HN2.out.cell_ (i := 0) rfl
  have a1 : w3.cell? ⟨B + 1 + 1 + 1, 1, none⟩ = some (.int .i64 ca) := HN2.out.cell_ (i := 1) rfl
  have a2 : w3.cell? ⟨B + 1 + 1 + 1, 2, none⟩ = some (.int .u32 xa) := HN2.out.cell_ (i := 2) rfl
  have a3 : w3.cell? ⟨B + 1 + 1 + 1, 3, none⟩ = some (.int .u32 ya) := HN2.out.cell_ (i := 3) rfl
  have a4 : w3.cell? ⟨B + 1 + 1 + 1, 4, none⟩ = some (.int .u32 oa) := HN2.out.cell_ (i := 4) rfl
  have k0 : w3.cell? ⟨B, 0, none⟩ = some (.bool true) := HF3.out.rk.cell_ (i := 0) rfl
  have k1 : w3.cell? ⟨B, 1, none⟩ = some (.int .i64 c) := HF3.out.rk.cell_ (i := 1) rfl
  have k2 : w3.cell? ⟨B, 2, none⟩ = some (.int .i64 i) := HF3.out.rk.cell_ (i := 2) rfl
  have k3 : w3.cell? ⟨B, 3, none⟩ = some (.bool true) := HF3.out.rk.cell_ (i := 3) rfl
  refine wp_region_held_drew (S := fun w' => (w'.cell? ⟨B, 0, none⟩ = some (.bool true) ∧ w'.cell? ⟨B, 1, none⟩ = some (.int .i64 c) ∧ w'.cell? ⟨B, 2, none⟩ = some (.int .i64 i) ∧ w'.cell? ⟨B, 3, none⟩ = some (.bool true)) ∧ w'.cell? ⟨B + 1 + 1 + 1, 0, none⟩ = some (.int .i64 ka) ∧ w'.cell? ⟨B + 1 + 1 + 1, 1, none⟩ = some (.int .i64 ca) ∧ w'.cell? ⟨B + 1 + 1 + 1, 2, none⟩ = some (.int .u32 xa) ∧ w'.cell? ⟨B + 1 + 1 + 1, 3, none⟩ = some (.int .u32 ya) ∧ w'.cell? ⟨B + 1 + 1 + 1, 4, none⟩ = some (.int .u32 oa)) (by kernel_rfl) ⟨⟨k0, k1, k2, k3⟩, a0, a1, a2, a3, a4⟩ (fun hHeld => ?_)
  have HF6 := Lib.hid (HF3.out.keep (Only.refl Nil w3).drew)
  have HN6 := Lib.hid HN2.out.drew
  clear a0 a1 a2 a3 a4 k0 k1 k2 k3 HF3 HN2
  generalize w3.drew = w6 at *
  refine zk 0 rfl ?_
  refine zk 1 rfl ?_
  refine zk 2 rfl ?_
  refine zk 3 rfl ?_
  refine zk 4 rfl ?_
  rw [HJ.out]
  refine zk 5 rfl ?_
  refine zk 6 rfl ?_
  have n0 : w6.cell? ⟨B + 1, 0, none⟩ = some (.bool false) := HF6.out.rn.cell_ (i := 0) rfl
  have n1 : w6.cell? ⟨B + 1, 1, none⟩ = some (.int .i64 0) := HF6.out.rn.cell_ (i := 1) rfl
  have n2 : w6.cell? ⟨B + 1, 2, none⟩ = some (.int .i64 0) := HF6.out.rn.cell_ (i := 2) rfl
  have n3 : w6.cell? ⟨B + 1, 3, none⟩ = some (.bool false) := HF6.out.rn.cell_ (i := 3) rfl
  have m0 : w6.frozen? ⟨B + 1, 0, none⟩ = false := HF6.out.rn.frozen 0
  have m1 : w6.frozen? ⟨B + 1, 1, none⟩ = false := HF6.out.rn.frozen 1
  have m2 : w6.frozen? ⟨B + 1, 2, none⟩ = false := HF6.out.rn.frozen 2
  have m3 : w6.frozen? ⟨B + 1, 3, none⟩ = false := HF6.out.rn.frozen 3
  refine mcl 7 rfl (by kernel_rfl) (by rfl) (fun K hK => ?_)
  go_simp
  have HF7 := Lib.hid (HF6.out.setN (.bool true) (.int .i64 (c)) (.int .i64 (i + 1)) (.bool false))
  have HN7 := Lib.hid (HN6.out.only (four_only (Only.refl (· = B + 1) w6) (g := B + 1) (.inr rfl) (.bool true) (.int .i64 (c)) (.int .i64 (i + 1)) (.bool false)) (by show ¬ B + 1 + 1 + 1 = B + 1; omega))
  refine hK.out _ _ ⟨⟨HF7.out.rk.cell_ (i := 0) rfl, HF7.out.rk.cell_ (i := 1) rfl, HF7.out.rk.cell_ (i := 2) rfl, HF7.out.rk.cell_ (i := 3) rfl⟩, HN7.out.cell_ (i := 0) rfl, HN7.out.cell_ (i := 1) rfl, HN7.out.cell_ (i := 2) rfl, HN7.out.cell_ (i := 3) rfl, HN7.out.cell_ (i := 4) rfl⟩ (fun hHeld2 => ?_)
  clear hK K hHeld n0 n1 n2 n3 m0 m1 m2 m3 HF6 HN6
  generalize (((w6.setCell ⟨B + 1, 0, none⟩ (.bool true)).setCell ⟨B + 1, 1, none⟩ (.int .i64 (c))).setCell ⟨B + 1, 2, none⟩ (.int .i64 (i + 1))).setCell ⟨B + 1, 3, none⟩ (.bool false) = w7 at *
  have r0 : w7.cell? ⟨B + 1 + 1, 0, none⟩ = some (.int .i64 0) := HF7.out.ra.cell_ (i := 0) rfl
  have r1 : w7.cell? ⟨B + 1 + 1, 1, none⟩ = some (.int .i64 0) := HF7.out.ra.cell_ (i := 1) rfl
  have r2 : w7.cell? ⟨B + 1 + 1, 2, none⟩ = some (.int .u32 0) := HF7.out.ra.cell_ (i := 2) rfl
  have r3 : w7.cell? ⟨B + 1 + 1, 3, none⟩ = some (.int .u32 0) := HF7.out.ra.cell_ (i := 3) rfl
  have r4 : w7.cell? ⟨B + 1 + 1, 4, none⟩ = some (.int .u32 0) := HF7.out.ra.cell_ (i := 4) rfl
  have q0 : w7.frozen? ⟨B + 1 + 1, 0, none⟩ = false := HF7.out.ra.frozen 0
  have q1 : w7.frozen? ⟨B + 1 + 1, 1, none⟩ = false := HF7.out.ra.frozen 1
  have q2 : w7.frozen? ⟨B + 1 + 1, 2, none⟩ = false := HF7.out.ra.frozen 2
  have q3 : w7.frozen? ⟨B + 1 + 1, 3, none⟩ = false := HF7.out.ra.frozen 3
  have q4 : w7.frozen? ⟨B + 1 + 1, 4, none⟩ = false := HF7.out.ra.frozen 4
  refine mcl 8 rfl (by kernel_rfl) (by rfl) (fun K hK => ?_)
  go_simp
  have HF8 := Lib.hid (HF7.out.setA (.int .i64 ka) (.int .i64 ca) (.int .u32 xa) (.int .u32 ya) (.int .u32 oa))
  have HN8 := Lib.hid (HN7.out.only (five_only (Only.refl (· = B + 1 + 1) w7) (g := B + 1 + 1) (.inr rfl) (.int .i64 ka) (.int .i64 ca) (.int .u32 xa) (.int .u32 ya) (.int .u32 oa)) (by show ¬ B + 1 + 1 + 1 = B + 1 + 1; omega))
  refine hK.out _ _ ⟨⟨HF8.out.rk.cell_ (i := 0) rfl, HF8.out.rk.cell_ (i := 1) rfl, HF8.out.rk.cell_ (i := 2) rfl, HF8.out.rk.cell_ (i := 3) rfl⟩, HN8.out.cell_ (i := 0) rfl, HN8.out.cell_ (i := 1) rfl, HN8.out.cell_ (i := 2) rfl, HN8.out.cell_ (i := 3) rfl, HN8.out.cell_ (i := 4) rfl⟩ (fun hHeld3 => ?_)
  clear hK K hHeld2 r0 r1 r2 r3 r4 q0 q1 q2 q3 q4 HF7 HN7
  generalize (((((w7.setCell ⟨B + 1 + 1, 0, none⟩ (.int .i64 ka)).setCell ⟨B + 1 + 1, 1, none⟩ (.int .i64 ca)).setCell ⟨B + 1 + 1, 2, none⟩ (.int .u32 xa)).setCell ⟨B + 1 + 1, 3, none⟩ (.int .u32 ya)).setCell ⟨B + 1 + 1, 4, none⟩ (.int .u32 oa)) = w8 at *
  refine wpAnyH_done (by kernel_rfl) ?_ _
  clear hHeld3
  go_wp2
  refine post_two (P := Tryz.prog) Tryz.results32 (by rfl) HF8.out.rn Tryz.underlying27 rfl (by kernel_rfl) (by rfl) HF8.out.ra Tryz.underlying39 rfl (by kernel_rfl) rfl ⟨?_, HF8.out.only, HF8.out.own⟩
  rw [HV.out]; rfl
theorem rw_look_no (base : Nat) (A : Option Addr) (l cp : Nat) (xs : List Int) (n c i : Int) (w : World) (h : Own w base A cp xs) (hn : xs.length = l) (hd : decide (cellI n 2 i < 0) = false) (ht : there xs (wc n i) = false) :
    Calls Tryz.prog 32 #[.slice A l cp, .int .i64 n, .agg #[.bool true, .int .i64 c, .int .i64 i, .bool false]] w (RStept base A cp ⟨wk0, accOf 0 0 0 0 0, xs⟩ w) := by
  have HT := Lib.hid ht
  clear ht
  have HF0 := Lib.hid (RK.start #[.bool true, .int .i64 c, .int .i64 i, .bool false] h)
  have HLN := Lib.hid hn
  clear h hn
  go_enter Tryz.func32, Tryz.ntmps32
  go_wp2_with fail
  refine (refCell_any n 2 i _ (by omega)).mono ?_
  rintro e w1 ⟨rfl, rfl⟩
  go_wp2_with fail
  have e0 := (Only.refl Nil (((w.alloc (.cells #[.bool true, .int .i64 c, .int .i64 i, .bool false] 27)).alloc (.cells #[.bool false, .int .i64 0, .int .i64 0, .bool false] 27)).alloc (.cells #[.int .i64 0, .int .i64 0, .int .u32 0, .int .u32 0, .int .u32 0] 39))).alloc (.cells #[.int .i64 0, .int .i64 0, .int .u32 0, .int .u32 0, .int .u32 0] 39)
  have HF1 := Lib.hid (HF0.out.keep e0)
  have HN := Lib.hid (Row.new (((w.alloc (.cells #[.bool true, .int .i64 c, .int .i64 i, .bool false] 27)).alloc (.cells #[.bool false, .int .i64 0, .int .i64 0, .bool false] 27)).alloc (.cells #[.int .i64 0, .int .i64 0, .int .u32 0, .int .u32 0, .int .u32 0] 39)) 39 #[.int .i64 0, .int .i64 0, .int .u32 0, .int .u32 0, .int .u32 0])
  rw [show (((w.alloc (.cells #[.bool true, .int .i64 c, .int .i64 i, .bool false] 27)).alloc (.cells #[.bool false, .int .i64 0, .int .i64 0, .bool false] 27)).alloc (.cells #[.int .i64 0, .int .i64 0, .int .u32 0, .int .u32 0, .int .u32 0] 39)).heap.size = w.heap.size + 1 + 1 + 1 by simp] at HN
  clear e0 HF0
  generalize (((w.alloc (.cells #[.bool true, .int .i64 c, .int .i64 i, .bool false] 27)).alloc (.cells #[.bool false, .int .i64 0, .int .i64 0, .bool false] 27)).alloc (.cells #[.int .i64 0, .int .i64 0, .int .u32 0, .int .u32 0, .int .u32 0] 39)).alloc (.cells #[.int .i64 0, .int .i64 0, .int .u32 0, .int .u32 0, .int .u32 0] 39) = w1 at *
  generalize w.heap.size = B at *
  refine (refCell_any n 2 i _ (by omega)).mono ?_
  rintro e w9 ⟨rfl, rfl⟩
  rw [show cellI n 2 i = wc n i from rfl]
  go_wp2_with fail
  refine (refdo_any base A l cp xs 1 (wc n i) 0 0 0 _ HF1.out.own HLN.out).mono ?_
  obtain ⟨ka, ca, xa, ya, hv⟩ := doVal_form xs 1 (wc n i) 0 0
  rw [oldAt xs 1 (wc n i) rfl] at hv
  rw [show doOk xs 1 (wc n i) = there xs (wc n i) by simp [doOk, isKind], doNew_load]
  rw [hv, HT.out]
  rintro e w2 ⟨rfl, hO, hM⟩
  have HN1 := Lib.hid (HN.out.only hO (fun e => by have := HF1.out.lt _ e; omega))
  have HF2 := Lib.hid (HF1.out.call hO hM)
  have HV := Lib.hid hv
  clear hO hM hv HF1 HN
  generalize wordAt xs (wc n i) = oa at *
  have r0 : w2.cell? ⟨B + 1 + 1 + 1, 0, none⟩ = some (.int .i64 0) := HN1.out.cell_ (i := 0) rfl
  have r1 : w2.cell? ⟨B + 1 + 1 + 1, 1, none⟩ = some (.int .i64 0) := HN1.out.cell_ (i := 1) rfl
  have r2 : w2.cell? ⟨B + 1 + 1 + 1, 2, none⟩ = some (.int .u32 0) := HN1.out.cell_ (i := 2) rfl
  have r3 : w2.cell? ⟨B + 1 + 1 + 1, 3, none⟩ = some (.int .u32 0) := HN1.out.cell_ (i := 3) rfl
  have r4 : w2.cell? ⟨B + 1 + 1 + 1, 4, none⟩ = some (.int .u32 0) := HN1.out.cell_ (i := 4) rfl
  have q0 : w2.frozen? ⟨B + 1 + 1 + 1, 0, none⟩ = false := HN1.out.frozen 0
  have q1 : w2.frozen? ⟨B + 1 + 1 + 1, 1, none⟩ = false := HN1.out.frozen 1
  have q2 : w2.frozen? ⟨B + 1 + 1 + 1, 2, none⟩ = false := HN1.out.frozen 2
  have q3 : w2.frozen? ⟨B + 1 + 1 + 1, 3, none⟩ = false := HN1.out.frozen 3
  have q4 : w2.frozen? ⟨B + 1 + 1 + 1, 4, none⟩ = false := HN1.out.frozen 4
  have HN2 := Lib.hid (five HN1.out (.int .i64 ka) (.int .i64 ca) (.int .u32 xa) (.int .u32 ya) (.int .u32 oa))
  have HF3 := Lib.hid (HF2.out.far (five_only (Only.refl (· = B + 1 + 1 + 1) w2) (g := B + 1 + 1 + 1) (.inr rfl) (.int .i64 ka) (.int .i64 ca) (.int .u32 xa) (.int .u32 ya) (.int .u32 oa)) (by omega))
  clear HN1 HF2
  go_upto_region 7 with (fail)
  clear r0 r1 r2 r3 r4 q0 q1 q2 q3 q4
  generalize (((((w2.setCell ⟨B + 1 + 1 + 1, 0, none⟩ (.int .i64 ka)).setCell ⟨B + 1 + 1 + 1, 1, none⟩ (.int .i64 ca)).setCell ⟨B + 1 + 1 + 1, 2, none⟩ (.int .u32 xa)).setCell ⟨B + 1 + 1 + 1, 3, none⟩ (.int .u32 ya)).setCell ⟨B + 1 + 1 + 1, 4, none⟩ (.int .u32 oa)) = w3 at *
  have n0 : w3.cell? ⟨B + 1, 0, none⟩ = some (.bool false) := HF3.out.rn.cell_ (i := 0) rfl
  have n1 : w3.cell? ⟨B + 1, 1, none⟩ = some (.int .i64 0) := HF3.out.rn.cell_ (i := 1) rfl
  have n2 : w3.cell? ⟨B + 1, 2, none⟩ = some (.int .i64 0) := HF3.out.rn.cell_ (i := 2) rfl
  have n3 : w3.cell? ⟨B + 1, 3, none⟩ = some (.bool false) := HF3.out.rn.cell_ (i := 3) rfl
  have m0 : w3.frozen? ⟨B + 1, 0, none⟩ = false := HF3.out.rn.frozen 0
  have m1 : w3.frozen? ⟨B + 1, 1, none⟩ = false := HF3.out.rn.frozen 1
  have m2 : w3.frozen? ⟨B + 1, 2, none⟩ = false := HF3.out.rn.frozen 2
  have m3 : w3.frozen? ⟨B + 1, 3, none⟩ = false := HF3.out.rn.frozen 3
  have r0 : w3.cell? ⟨B + 1 + 1, 0, none⟩ = some (.int .i64 0) := HF3.out.ra.cell_ (i := 0) rfl
  have r1 : w3.cell? ⟨B + 1 + 1, 1, none⟩ = some (.int .i64 0) := HF3.out.ra.cell_ (i := 1) rfl
  have r2 : w3.cell? ⟨B + 1 + 1, 2, none⟩ = some (.int .u32 0) := HF3.out.ra.cell_ (i := 2) rfl
  have r3 : w3.cell? ⟨B + 1 + 1, 3, none⟩ = some (.int .u32 0) := HF3.out.ra.cell_ (i := 3) rfl
  have r4 : w3.cell? ⟨B + 1 + 1, 4, none⟩ = some (.int .u32 0) := HF3.out.ra.cell_ (i := 4) rfl
  have q0 : w3.frozen? ⟨B + 1 + 1, 0, none⟩ = false := HF3.out.ra.frozen 0
  have q1 : w3.frozen? ⟨B + 1 + 1, 1, none⟩ = false := HF3.out.ra.frozen 1
  have q2 : w3.frozen? ⟨B + 1 + 1, 2, none⟩ = false := HF3.out.ra.frozen 2
  have q3 : w3.frozen? ⟨B + 1 + 1, 3, none⟩ = false := HF3.out.ra.frozen 3
  have q4 : w3.frozen? ⟨B + 1 + 1, 4, none⟩ = false := HF3.out.ra.frozen 4
  go_wp2
  have HF4 := Lib.hid ((HF3.out.setN (.bool false) (.int .i64 0) (.int .i64 0) (.bool false)).setA (.int .i64 0) (.int .i64 0) (.int .u32 0) (.int .u32 0) (.int .u32 0))
  exact post_two (P := Tryz.prog) Tryz.results32 (by rfl) HF4.out.rn Tryz.underlying27 rfl (by kernel_rfl) (by rfl) HF4.out.ra Tryz.underlying39 rfl (by kernel_rfl) rfl ⟨rfl, HF4.out.only, HF4.out.own⟩
set_option maxHeartbeats 400000 in
theorem rw_look_end (base : Nat) (A : Option Addr) (l cp : Nat) (xs : List Int) (n c i : Int) (w : World) (h : Own w base A cp xs) (hn : xs.length = l) (hd : decide (cellI n 2 i < 0) = false) (ht : there xs (wc n i) = true) (hq : (wordAt xs (wc n i) == (c + 1) % 4294967296) = false) (b1 : 0 ≤ i) (b2 : i < 64) (b3 : n ≤ i + 1) :
    Calls Tryz.prog 32 #[.slice A l cp, .int .i64 n, .agg #[.bool true, .int .i64 c, .int .i64 i, .bool false]] w (RStept base A cp ⟨wk0, doVal xs 1 (wc n i) 0 0, xs⟩ w) := by
  have HT := Lib.hid ht
  have HQ := Lib.hid hq
  clear ht hq
  have HF0 := Lib.hid (RK.start #[.bool true, .int .i64 c, .int .i64 i, .bool false] h)
  have HLN := Lib.hid hn
  clear h hn
  go_enter Tryz.func32, Tryz.ntmps32
  go_wp2_with fail
  refine (refCell_any n 2 i _ (by omega)).mono ?_
  rintro e w1 ⟨rfl, rfl⟩
  go_wp2_with fail
  have e0 := (Only.refl Nil (((w.alloc (.cells #[.bool true, .int .i64 c, .int .i64 i, .bool false] 27)).alloc (.cells #[.bool false, .int .i64 0, .int .i64 0, .bool false] 27)).alloc (.cells #[.int .i64 0, .int .i64 0, .int .u32 0, .int .u32 0, .int .u32 0] 39))).alloc (.cells #[.int .i64 0, .int .i64 0, .int .u32 0, .int .u32 0, .int .u32 0] 39)
  have HF1 := Lib.hid (HF0.out.keep e0)
  have HN := Lib.hid (Row.new (((w.alloc (.cells #[.bool true, .int .i64 c, .int .i64 i, .bool false] 27)).alloc (.cells #[.bool false, .int .i64 0, .int .i64 0, .bool false] 27)).alloc (.cells #[.int .i64 0, .int .i64 0, .int .u32 0, .int .u32 0, .int .u32 0] 39)) 39 #[.int .i64 0, .int .i64 0, .int .u32 0, .int .u32 0, .int .u32 0])
  rw [show (((w.alloc (.cells #[.bool true, .int .i64 c, .int .i64 i, .bool false] 27)).alloc (.cells #[.bool false, .int .i64 0, .int .i64 0, .bool false] 27)).alloc (.cells #[.int .i64 0, .int .i64 0, .int .u32 0, .int .u32 0, .int .u32 0] 39)).heap.size = w.heap.size + 1 + 1 + 1 by simp] at HN
  clear e0 HF0
  generalize (((w.alloc (.cells #[.bool true, .int .i64 c, .int .i64 i, .bool false] 27)).alloc (.cells #[.bool false, .int .i64 0, .int .i64 0, .bool false] 27)).alloc (.cells #[.int .i64 0, .int .i64 0, .int .u32 0, .int .u32 0, .int .u32 0] 39)).alloc (.cells #[.int .i64 0, .int .i64 0, .int .u32 0, .int .u32 0, .int .u32 0] 39) = w1 at *
  generalize w.heap.size = B at *
  refine (refCell_any n 2 i _ (by omega)).mono ?_
  rintro e w9 ⟨rfl, rfl⟩
  rw [show cellI n 2 i = wc n i from rfl]
  go_wp2_with fail
  refine (refdo_any base A l cp xs 1 (wc n i) 0 0 0 _ HF1.out.own HLN.out).mono ?_
  obtain ⟨ka, ca, xa, ya, hv⟩ := doVal_form xs 1 (wc n i) 0 0
  rw [oldAt xs 1 (wc n i) rfl] at hv
  rw [show doOk xs 1 (wc n i) = there xs (wc n i) by simp [doOk, isKind], doNew_load]
  rw [hv, HT.out]
  rintro e w2 ⟨rfl, hO, hM⟩
  have HN1 := Lib.hid (HN.out.only hO (fun e => by have := HF1.out.lt _ e; omega))
  have HF2 := Lib.hid (HF1.out.call hO hM)
  have HV := Lib.hid hv
  clear hO hM hv HF1 HN
  generalize wordAt xs (wc n i) = oa at *
  have r0 : w2.cell? ⟨B + 1 + 1 + 1, 0, none⟩ = some (.int .i64 0) := HN1.out.cell_ (i := 0) rfl
  have r1 : w2.cell? ⟨B + 1 + 1 + 1, 1, none⟩ = some (.int .i64 0) := HN1.out.cell_ (i := 1) rfl
  have r2 : w2.cell? ⟨B + 1 + 1 + 1, 2, none⟩ = some (.int .u32 0) := HN1.out.cell_ (i := 2) rfl
  have r3 : w2.cell? ⟨B + 1 + 1 + 1, 3, none⟩ = some (.int .u32 0) := HN1.out.cell_ (i := 3) rfl
  have r4 : w2.cell? ⟨B + 1 + 1 + 1, 4, none⟩ = some (.int .u32 0) := HN1.out.cell_ (i := 4) rfl
  have q0 : w2.frozen? ⟨B + 1 + 1 + 1, 0, none⟩ = false := HN1.out.frozen 0
  have q1 : w2.frozen? ⟨B + 1 + 1 + 1, 1, none⟩ = false := HN1.out.frozen 1
  have q2 : w2.frozen? ⟨B + 1 + 1 + 1, 2, none⟩ = false := HN1.out.frozen 2
  have q3 : w2.frozen? ⟨B + 1 + 1 + 1, 3, none⟩ = false := HN1.out.frozen 3
  have q4 : w2.frozen? ⟨B + 1 + 1 + 1, 4, none⟩ = false := HN1.out.frozen 4
  have HN2 := Lib.hid (five HN1.out (.int .i64 ka) (.int .i64 ca) (.int .u32 xa) (.int .u32 ya) (.int .u32 oa))
  have HF3 := Lib.hid (HF2.out.far (five_only (Only.refl (· = B + 1 + 1 + 1) w2) (g := B + 1 + 1 + 1) (.inr rfl) (.int .i64 ka) (.int .i64 ca) (.int .u32 xa) (.int .u32 ya) (.int .u32 oa)) (by omega))
  clear HN1 HF2
  go_upto_region 7 with (fail)
  clear r0 r1 r2 r3 r4 q0 q1 q2 q3 q4
  generalize (((((w2.setCell ⟨B + 1 + 1 + 1, 0, none⟩ (.int .i64 ka)).setCell ⟨B + 1 + 1 + 1, 1, none⟩ (.int .i64 ca)).setCell ⟨B + 1 + 1 + 1, 2, none⟩ (.int .u32 xa)).setCell ⟨B + 1 + 1 + 1, 3, none⟩ (.int .u32 ya)).setCell ⟨B + 1 + 1 + 1, 4, none⟩ (.int .u32 oa)) = w3 at *
  have a0 : w3.cell? ⟨B + 1 + 1 + 1, 0, none⟩ = some (.int .i64 ka) := HN2.out.cell_ (i := 0) rfl
  have a1 : w3.cell? ⟨B + 1 + 1 + 1, 1, none⟩ = some (.int .i64 ca) := HN2.out.cell_ (i := 1) rfl
  have a2 : w3.cell? ⟨B + 1 + 1 + 1, 2, none⟩ = some (.int .u32 xa) := HN2.out.cell_ (i := 2) rfl
  have a3 : w3.cell? ⟨B + 1 + 1 + 1, 3, none⟩ = some (.int .u32 ya) := HN2.out.cell_ (i := 3) rfl
  have a4 : w3.cell? ⟨B + 1 + 1 + 1, 4, none⟩ = some (.int .u32 oa) := HN2.out.cell_ (i := 4) rfl
  have q0 := HQ.out
  have k0 : w3.cell? ⟨B, 0, none⟩ = some (.bool true) := HF3.out.rk.cell_ (i := 0) rfl
  have k1 : w3.cell? ⟨B, 1, none⟩ = some (.int .i64 c) := HF3.out.rk.cell_ (i := 1) rfl
  have k2 : w3.cell? ⟨B, 2, none⟩ = some (.int .i64 i) := HF3.out.rk.cell_ (i := 2) rfl
  have k3 : w3.cell? ⟨B, 3, none⟩ = some (.bool false) := HF3.out.rk.cell_ (i := 3) rfl
  skip
  go_wp2_with fail
  clear k0 k1 k2 k3
  clear a0 a1 a2 a3 a4 q0
  have a0 : w3.cell? ⟨B + 1 + 1 + 1, 0, none⟩ = some (.int .i64 ka) := HN2.out.cell_ (i := 0) rfl
  have a1 : w3.cell? ⟨B + 1 + 1 + 1, 1, none⟩ = some (.int .i64 ca) := HN2.out.cell_ (i := 1) rfl
  have a2 : w3.cell? ⟨B + 1 + 1 + 1, 2, none⟩ = some (.int .u32 xa) := HN2.out.cell_ (i := 2) rfl
  have a3 : w3.cell? ⟨B + 1 + 1 + 1, 3, none⟩ = some (.int .u32 ya) := HN2.out.cell_ (i := 3) rfl
  have a4 : w3.cell? ⟨B + 1 + 1 + 1, 4, none⟩ = some (.int .u32 oa) := HN2.out.cell_ (i := 4) rfl
  have k0 : w3.cell? ⟨B, 0, none⟩ = some (.bool true) := HF3.out.rk.cell_ (i := 0) rfl
  have k1 : w3.cell? ⟨B, 1, none⟩ = some (.int .i64 c) := HF3.out.rk.cell_ (i := 1) rfl
  have k2 : w3.cell? ⟨B, 2, none⟩ = some (.int .i64 i) := HF3.out.rk.cell_ (i := 2) rfl
  have k3 : w3.cell? ⟨B, 3, none⟩ = some (.bool false) := HF3.out.rk.cell_ (i := 3) rfl
  refine wp_region_held_drew (S := fun w' => (w'.cell? ⟨B, 0, none⟩ = some (.bool true) ∧ w'.cell? ⟨B, 1, none⟩ = some (.int .i64 c) ∧ w'.cell? ⟨B, 2, none⟩ = some (.int .i64 i) ∧ w'.cell? ⟨B, 3, none⟩ = some (.bool false)) ∧ w'.cell? ⟨B + 1 + 1 + 1, 0, none⟩ = some (.int .i64 ka) ∧ w'.cell? ⟨B + 1 + 1 + 1, 1, none⟩ = some (.int .i64 ca) ∧ w'.cell? ⟨B + 1 + 1 + 1, 2, none⟩ = some (.int .u32 xa) ∧ w'.cell? ⟨B + 1 + 1 + 1, 3, none⟩ = some (.int .u32 ya) ∧ w'.cell? ⟨B + 1 + 1 + 1, 4, none⟩ = some (.int .u32 oa)) (by kernel_rfl) ⟨⟨k0, k1, k2, k3⟩, a0, a1, a2, a3, a4⟩ (fun hHeld => ?_)
  have HF6 := Lib.hid (HF3.out.keep (Only.refl Nil w3).drew)
  have HN6 := Lib.hid HN2.out.drew
  clear a0 a1 a2 a3 a4 k0 k1 k2 k3 HF3 HN2
  generalize w3.drew = w6 at *
  refine zk 0 rfl ?_
  refine zk 1 rfl ?_
  have n0 : w6.cell? ⟨B + 1, 0, none⟩ = some (.bool false) := HF6.out.rn.cell_ (i := 0) rfl
  have n1 : w6.cell? ⟨B + 1, 1, none⟩ = some (.int .i64 0) := HF6.out.rn.cell_ (i := 1) rfl
  have n2 : w6.cell? ⟨B + 1, 2, none⟩ = some (.int .i64 0) := HF6.out.rn.cell_ (i := 2) rfl
  have n3 : w6.cell? ⟨B + 1, 3, none⟩ = some (.bool false) := HF6.out.rn.cell_ (i := 3) rfl
  have m0 : w6.frozen? ⟨B + 1, 0, none⟩ = false := HF6.out.rn.frozen 0
  have m1 : w6.frozen? ⟨B + 1, 1, none⟩ = false := HF6.out.rn.frozen 1
  have m2 : w6.frozen? ⟨B + 1, 2, none⟩ = false := HF6.out.rn.frozen 2
  have m3 : w6.frozen? ⟨B + 1, 3, none⟩ = false := HF6.out.rn.frozen 3
  refine mcl 2 rfl (by kernel_rfl) (by rfl) (fun K hK => ?_)
  go_simp
  have HF7 := Lib.hid (HF6.out.setN (.bool false) (.int .i64 (0)) (.int .i64 (0)) (.bool false))
  have HN7 := Lib.hid (HN6.out.only (four_only (Only.refl (· = B + 1) w6) (g := B + 1) (.inr rfl) (.bool false) (.int .i64 (0)) (.int .i64 (0)) (.bool false)) (by show ¬ B + 1 + 1 + 1 = B + 1; omega))
  refine hK.out _ _ ⟨⟨HF7.out.rk.cell_ (i := 0) rfl, HF7.out.rk.cell_ (i := 1) rfl, HF7.out.rk.cell_ (i := 2) rfl, HF7.out.rk.cell_ (i := 3) rfl⟩, HN7.out.cell_ (i := 0) rfl, HN7.out.cell_ (i := 1) rfl, HN7.out.cell_ (i := 2) rfl, HN7.out.cell_ (i := 3) rfl, HN7.out.cell_ (i := 4) rfl⟩ (fun hHeld2 => ?_)
  clear hK K hHeld n0 n1 n2 n3 m0 m1 m2 m3 HF6 HN6
  generalize (((w6.setCell ⟨B + 1, 0, none⟩ (.bool false)).setCell ⟨B + 1, 1, none⟩ (.int .i64 (0))).setCell ⟨B + 1, 2, none⟩ (.int .i64 (0))).setCell ⟨B + 1, 3, none⟩ (.bool false) = w7 at *
  have r0 : w7.cell? ⟨B + 1 + 1, 0, none⟩ = some (.int .i64 0) := HF7.out.ra.cell_ (i := 0) rfl
  have r1 : w7.cell? ⟨B + 1 + 1, 1, none⟩ = some (.int .i64 0) := HF7.out.ra.cell_ (i := 1) rfl
  have r2 : w7.cell? ⟨B + 1 + 1, 2, none⟩ = some (.int .u32 0) := HF7.out.ra.cell_ (i := 2) rfl
  have r3 : w7.cell? ⟨B + 1 + 1, 3, none⟩ = some (.int .u32 0) := HF7.out.ra.cell_ (i := 3) rfl
  have r4 : w7.cell? ⟨B + 1 + 1, 4, none⟩ = some (.int .u32 0) := HF7.out.ra.cell_ (i := 4) rfl
  have q0 : w7.frozen? ⟨B + 1 + 1, 0, none⟩ = false := HF7.out.ra.frozen 0
  have q1 : w7.frozen? ⟨B + 1 + 1, 1, none⟩ = false := HF7.out.ra.frozen 1
  have q2 : w7.frozen? ⟨B + 1 + 1, 2, none⟩ = false := HF7.out.ra.frozen 2
  have q3 : w7.frozen? ⟨B + 1 + 1, 3, none⟩ = false := HF7.out.ra.frozen 3
  have q4 : w7.frozen? ⟨B + 1 + 1, 4, none⟩ = false := HF7.out.ra.frozen 4
  refine mcl 3 rfl (by kernel_rfl) (by rfl) (fun K hK => ?_)
  go_simp
  have HF8 := Lib.hid (HF7.out.setA (.int .i64 ka) (.int .i64 ca) (.int .u32 xa) (.int .u32 ya) (.int .u32 oa))
  have HN8 := Lib.hid (HN7.out.only (five_only (Only.refl (· = B + 1 + 1) w7) (g := B + 1 + 1) (.inr rfl) (.int .i64 ka) (.int .i64 ca) (.int .u32 xa) (.int .u32 ya) (.int .u32 oa)) (by show ¬ B + 1 + 1 + 1 = B + 1 + 1; omega))
  refine hK.out _ _ ⟨⟨HF8.out.rk.cell_ (i := 0) rfl, HF8.out.rk.cell_ (i := 1) rfl, HF8.out.rk.cell_ (i := 2) rfl, HF8.out.rk.cell_ (i := 3) rfl⟩, HN8.out.cell_ (i := 0) rfl, HN8.out.cell_ (i := 1) rfl, HN8.out.cell_ (i := 2) rfl, HN8.out.cell_ (i := 3) rfl, HN8.out.cell_ (i := 4) rfl⟩ (fun hHeld3 => ?_)
  clear hK K hHeld2 r0 r1 r2 r3 r4 q0 q1 q2 q3 q4 HF7 HN7
  generalize (((((w7.setCell ⟨B + 1 + 1, 0, none⟩ (.int .i64 ka)).setCell ⟨B + 1 + 1, 1, none⟩ (.int .i64 ca)).setCell ⟨B + 1 + 1, 2, none⟩ (.int .u32 xa)).setCell ⟨B + 1 + 1, 3, none⟩ (.int .u32 ya)).setCell ⟨B + 1 + 1, 4, none⟩ (.int .u32 oa)) = w8 at *
  refine wpAnyH_done (by kernel_rfl) ?_ _
  clear hHeld3
  go_wp2
  refine post_two (P := Tryz.prog) Tryz.results32 (by rfl) HF8.out.rn Tryz.underlying27 rfl (by kernel_rfl) (by rfl) HF8.out.ra Tryz.underlying39 rfl (by kernel_rfl) rfl ⟨?_, HF8.out.only, HF8.out.own⟩
  rw [HV.out]; rfl
set_option maxHeartbeats 400000 in
theorem rw_look_on (base : Nat) (A : Option Addr) (l cp : Nat) (xs : List Int) (n c i : Int) (w : World) (h : Own w base A cp xs) (hn : xs.length = l) (hd : decide (cellI n 2 i < 0) = false) (ht : there xs (wc n i) = true) (hq : (wordAt xs (wc n i) == (c + 1) % 4294967296) = false) (b1 : 0 ≤ i) (b2 : i < 64) (b3 : i + 1 < n) :
    Calls Tryz.prog 32 #[.slice A l cp, .int .i64 n, .agg #[.bool true, .int .i64 c, .int .i64 i, .bool false]] w (RStept base A cp ⟨⟨true, c, i + 1, false⟩, doVal xs 1 (wc n i) 0 0, xs⟩ w) := by
  have HT := Lib.hid ht
  have HQ := Lib.hid hq
  have hj : IntKind.i64.wrap (i + 1) = i + 1 := IntWalk.i64_in _ (by omega)
  have HJ := Lib.hid hj
  clear ht hq hj
  have HF0 := Lib.hid (RK.start #[.bool true, .int .i64 c, .int .i64 i, .bool false] h)
  have HLN := Lib.hid hn
  clear h hn
  go_enter Tryz.func32, Tryz.ntmps32
  go_wp2_with fail
  refine (refCell_any n 2 i _ (by omega)).mono ?_
  rintro e w1 ⟨rfl, rfl⟩
  go_wp2_with fail
  have e0 := (Only.refl Nil (((w.alloc (.cells #[.bool true, .int .i64 c, .int .i64 i, .bool false] 27)).alloc (.cells #[.bool false, .int .i64 0, .int .i64 0, .bool false] 27)).alloc (.cells #[.int .i64 0, .int .i64 0, .int .u32 0, .int .u32 0, .int .u32 0] 39))).alloc (.cells #[.int .i64 0, .int .i64 0, .int .u32 0, .int .u32 0, .int .u32 0] 39)
  have HF1 := Lib.hid (HF0.out.keep e0)
  have HN := Lib.hid (Row.new (((w.alloc (.cells #[.bool true, .int .i64 c, .int .i64 i, .bool false] 27)).alloc (.cells #[.bool false, .int .i64 0, .int .i64 0, .bool false] 27)).alloc (.cells #[.int .i64 0, .int .i64 0, .int .u32 0, .int .u32 0, .int .u32 0] 39)) 39 #[.int .i64 0, .int .i64 0, .int .u32 0, .int .u32 0, .int .u32 0])
  rw [show (((w.alloc (.cells #[.bool true, .int .i64 c, .int .i64 i, .bool false] 27)).alloc (.cells #[.bool false, .int .i64 0, .int .i64 0, .bool false] 27)).alloc (.cells #[.int .i64 0, .int .i64 0, .int .u32 0, .int .u32 0, .int .u32 0] 39)).heap.size = w.heap.size + 1 + 1 + 1 by simp] at HN
  clear e0 HF0
  generalize (((w.alloc (.cells #[.bool true, .int .i64 c, .int .i64 i, .bool false] 27)).alloc (.cells #[.bool false, .int .i64 0, .int .i64 0, .bool false] 27)).alloc (.cells #[.int .i64 0, .int .i64 0, .int .u32 0, .int .u32 0, .int .u32 0] 39)).alloc (.cells #[.int .i64 0, .int .i64 0, .int .u32 0, .int .u32 0, .int .u32 0] 39) = w1 at *
  generalize w.heap.size = B at *
  refine (refCell_any n 2 i _ (by omega)).mono ?_
  rintro e w9 ⟨rfl, rfl⟩
  rw [show cellI n 2 i = wc n i from rfl]
  go_wp2_with fail
  refine (refdo_any base A l cp xs 1 (wc n i) 0 0 0 _ HF1.out.own HLN.out).mono ?_
  obtain ⟨ka, ca, xa, ya, hv⟩ := doVal_form xs 1 (wc n i) 0 0
  rw [oldAt xs 1 (wc n i) rfl] at hv
  rw [show doOk xs 1 (wc n i) = there xs (wc n i) by simp [doOk, isKind], doNew_load]
  rw [hv, HT.out]
  rintro e w2 ⟨rfl, hO, hM⟩
  have HN1 := Lib.hid (HN.out.only hO (fun e => by have := HF1.out.lt _ e; omega))
  have HF2 := Lib.hid (HF1.out.call hO hM)
  have HV := Lib.hid hv
  clear hO hM hv HF1 HN
  generalize wordAt xs (wc n i) = oa at *
  have r0 : w2.cell? ⟨B + 1 + 1 + 1, 0, none⟩ = some (.int .i64 0) := HN1.out.cell_ (i := 0) rfl
  have r1 : w2.cell? ⟨B + 1 + 1 + 1, 1, none⟩ = some (.int .i64 0) := HN1.out.cell_ (i := 1) rfl
  have r2 : w2.cell? ⟨B + 1 + 1 + 1, 2, none⟩ = some (.int .u32 0) := HN1.out.cell_ (i := 2) rfl
  have r3 : w2.cell? ⟨B + 1 + 1 + 1, 3, none⟩ = some (.int .u32 0) := HN1.out.cell_ (i := 3) rfl
  have r4 : w2.cell? ⟨B + 1 + 1 + 1, 4, none⟩ = some (.int .u32 0) := HN1.out.cell_ (i := 4) rfl
  have q0 : w2.frozen? ⟨B + 1 + 1 + 1, 0, none⟩ = false := HN1.out.frozen 0
  have q1 : w2.frozen? ⟨B + 1 + 1 + 1, 1, none⟩ = false := HN1.out.frozen 1
  have q2 : w2.frozen? ⟨B + 1 + 1 + 1, 2, none⟩ = false := HN1.out.frozen 2
  have q3 : w2.frozen? ⟨B + 1 + 1 + 1, 3, none⟩ = false := HN1.out.frozen 3
  have q4 : w2.frozen? ⟨B + 1 + 1 + 1, 4, none⟩ = false := HN1.out.frozen 4
  have HN2 := Lib.hid (five HN1.out (.int .i64 ka) (.int .i64 ca) (.int .u32 xa) (.int .u32 ya) (.int .u32 oa))
  have HF3 := Lib.hid (HF2.out.far (five_only (Only.refl (· = B + 1 + 1 + 1) w2) (g := B + 1 + 1 + 1) (.inr rfl) (.int .i64 ka) (.int .i64 ca) (.int .u32 xa) (.int .u32 ya) (.int .u32 oa)) (by omega))
  clear HN1 HF2
  go_upto_region 7 with (fail)
  clear r0 r1 r2 r3 r4 q0 q1 q2 q3 q4
  generalize (((((w2.setCell ⟨B + 1 + 1 + 1, 0, none⟩ (.int .i64 ka)).setCell ⟨B + 1 + 1 + 1, 1, none⟩ (.int .i64 ca)).setCell ⟨B + 1 + 1 + 1, 2, none⟩ (.int .u32 xa)).setCell ⟨B + 1 + 1 + 1, 3, none⟩ (.int .u32 ya)).setCell ⟨B + 1 + 1 + 1, 4, none⟩ (.int .u32 oa)) = w3 at *
  have a0 : w3.cell? ⟨B + 1 + 1 + 1, 0, none⟩ = some (.int .i64 ka) := HN2.out.cell_ (i := 0) rfl
  have a1 : w3.cell? ⟨B + 1 + 1 + 1, 1, none⟩ = some (.int .i64 ca) := HN2.out.cell_ (i := 1) rfl
  have a2 : w3.cell? ⟨B + 1 + 1 + 1, 2, none⟩ = some (.int .u32 xa) := HN2.out.cell_ (i := 2) rfl
  have a3 : w3.cell? ⟨B + 1 + 1 + 1, 3, none⟩ = some (.int .u32 ya) := HN2.out.cell_ (i := 3) rfl
  have a4 : w3.cell? ⟨B + 1 + 1 + 1, 4, none⟩ = some (.int .u32 oa) := HN2.out.cell_ (i := 4) rfl
  have q0 := HQ.out
  have k0 : w3.cell? ⟨B, 0, none⟩ = some (.bool true) := HF3.out.rk.cell_ (i := 0) rfl
  have k1 : w3.cell? ⟨B, 1, none⟩ = some (.int .i64 c) := HF3.out.rk.cell_ (i := 1) rfl
  have k2 : w3.cell? ⟨B, 2, none⟩ = some (.int .i64 i) := HF3.out.rk.cell_ (i := 2) rfl
  have k3 : w3.cell? ⟨B, 3, none⟩ = some (.bool false) := HF3.out.rk.cell_ (i := 3) rfl
  skip
  go_wp2_with fail
  clear k0 k1 k2 k3
  clear a0 a1 a2 a3 a4 q0
  have a0 : w3.cell? ⟨B + 1 + 1 + 1, 0, none⟩ = some (.int .i64 ka) := HN2.out.cell_ (i := 0) rfl
  have a1 : w3.cell? ⟨B + 1 + 1 + 1, 1, none⟩ = some (.int .i64 ca) := HN2.out.cell_ (i := 1) rfl
  have a2 : w3.cell? ⟨B + 1 + 1 + 1, 2, none⟩ = some (.int .u32 xa) := HN2.out.cell_ (i := 2) rfl
  have a3 : w3.cell? ⟨B + 1 + 1 + 1, 3, none⟩ = some (.int .u32 ya) := HN2.out.cell_ (i := 3) rfl
  have a4 : w3.cell? ⟨B + 1 + 1 + 1, 4, none⟩ = some (.int .u32 oa) := HN2.out.cell_ (i := 4) rfl
  have k0 : w3.cell? ⟨B, 0, none⟩ = some (.bool true) := HF3.out.rk.cell_ (i := 0) rfl
  have k1 : w3.cell? ⟨B, 1, none⟩ = some (.int .i64 c) := HF3.out.rk.cell_ (i := 1) rfl
  have k2 : w3.cell? ⟨B, 2, none⟩ = some (.int .i64 i) := HF3.out.rk.cell_ (i := 2) rfl
  have k3 : w3.cell? ⟨B, 3, none⟩ = some (.bool false) := HF3.out.rk.cell_ (i := 3) rfl
  refine wp_region_held_drew (S := fun w' => (w'.cell? ⟨B, 0, none⟩ = some (.bool true) ∧ w'.cell? ⟨B, 1, none⟩ = some (.int .i64 c) ∧ w'.cell? ⟨B, 2, none⟩ = some (.int .i64 i) ∧ w'.cell? ⟨B, 3, none⟩ = some (.bool false)) ∧ w'.cell? ⟨B + 1 + 1 + 1, 0, none⟩ = some (.int .i64 ka) ∧ w'.cell? ⟨B + 1 + 1 + 1, 1, none⟩ = some (.int .i64 ca) ∧ w'.cell? ⟨B + 1 + 1 + 1, 2, none⟩ = some (.int .u32 xa) ∧ w'.cell? ⟨B + 1 + 1 + 1, 3, none⟩ = some (.int .u32 ya) ∧ w'.cell? ⟨B + 1 + 1 + 1, 4, none⟩ = some (.int .u32 oa)) (by kernel_rfl) ⟨⟨k0, k1, k2, k3⟩, a0, a1, a2, a3, a4⟩ (fun hHeld => ?_)
  have HF6 := Lib.hid (HF3.out.keep (Only.refl Nil w3).drew)
  have HN6 := Lib.hid HN2.out.drew
  clear a0 a1 a2 a3 a4 k0 k1 k2 k3 HF3 HN2
  generalize w3.drew = w6 at *
  refine zk 0 rfl ?_
  refine zk 1 rfl ?_
  refine zk 2 rfl ?_
  refine zk 3 rfl ?_
  refine zk 4 rfl ?_
  rw [HJ.out]
  refine zk 5 rfl ?_
  refine zk 6 rfl ?_
  have n0 : w6.cell? ⟨B + 1, 0, none⟩ = some (.bool false) := HF6.out.rn.cell_ (i := 0) rfl
  have n1 : w6.cell? ⟨B + 1, 1, none⟩ = some (.int .i64 0) := HF6.out.rn.cell_ (i := 1) rfl
  have n2 : w6.cell? ⟨B + 1, 2, none⟩ = some (.int .i64 0) := HF6.out.rn.cell_ (i := 2) rfl
  have n3 : w6.cell? ⟨B + 1, 3, none⟩ = some (.bool false) := HF6.out.rn.cell_ (i := 3) rfl
  have m0 : w6.frozen? ⟨B + 1, 0, none⟩ = false := HF6.out.rn.frozen 0
  have m1 : w6.frozen? ⟨B + 1, 1, none⟩ = false := HF6.out.rn.frozen 1
  have m2 : w6.frozen? ⟨B + 1, 2, none⟩ = false := HF6.out.rn.frozen 2
  have m3 : w6.frozen? ⟨B + 1, 3, none⟩ = false := HF6.out.rn.frozen 3
  refine mcl 7 rfl (by kernel_rfl) (by rfl) (fun K hK => ?_)
  go_simp
  have HF7 := Lib.hid (HF6.out.setN (.bool true) (.int .i64 (c)) (.int .i64 (i + 1)) (.bool false))
  have HN7 := Lib.hid (HN6.out.only (four_only (Only.refl (· = B + 1) w6) (g := B + 1) (.inr rfl) (.bool true) (.int .i64 (c)) (.int .i64 (i + 1)) (.bool false)) (by show ¬ B + 1 + 1 + 1 = B + 1; omega))
  refine hK.out _ _ ⟨⟨HF7.out.rk.cell_ (i := 0) rfl, HF7.out.rk.cell_ (i := 1) rfl, HF7.out.rk.cell_ (i := 2) rfl, HF7.out.rk.cell_ (i := 3) rfl⟩, HN7.out.cell_ (i := 0) rfl, HN7.out.cell_ (i := 1) rfl, HN7.out.cell_ (i := 2) rfl, HN7.out.cell_ (i := 3) rfl, HN7.out.cell_ (i := 4) rfl⟩ (fun hHeld2 => ?_)
  clear hK K hHeld n0 n1 n2 n3 m0 m1 m2 m3 HF6 HN6
  generalize (((w6.setCell ⟨B + 1, 0, none⟩ (.bool true)).setCell ⟨B + 1, 1, none⟩ (.int .i64 (c))).setCell ⟨B + 1, 2, none⟩ (.int .i64 (i + 1))).setCell ⟨B + 1, 3, none⟩ (.bool false) = w7 at *
  have r0 : w7.cell? ⟨B + 1 + 1, 0, none⟩ = some (.int .i64 0) := HF7.out.ra.cell_ (i := 0) rfl
  have r1 : w7.cell? ⟨B + 1 + 1, 1, none⟩ = some (.int .i64 0) := HF7.out.ra.cell_ (i := 1) rfl
  have r2 : w7.cell? ⟨B + 1 + 1, 2, none⟩ = some (.int .u32 0) := HF7.out.ra.cell_ (i := 2) rfl
  have r3 : w7.cell? ⟨B + 1 + 1, 3, none⟩ = some (.int .u32 0) := HF7.out.ra.cell_ (i := 3) rfl
  have r4 : w7.cell? ⟨B + 1 + 1, 4, none⟩ = some (.int .u32 0) := HF7.out.ra.cell_ (i := 4) rfl
  have q0 : w7.frozen? ⟨B + 1 + 1, 0, none⟩ = false := HF7.out.ra.frozen 0
  have q1 : w7.frozen? ⟨B + 1 + 1, 1, none⟩ = false := HF7.out.ra.frozen 1
  have q2 : w7.frozen? ⟨B + 1 + 1, 2, none⟩ = false := HF7.out.ra.frozen 2
  have q3 : w7.frozen? ⟨B + 1 + 1, 3, none⟩ = false := HF7.out.ra.frozen 3
  have q4 : w7.frozen? ⟨B + 1 + 1, 4, none⟩ = false := HF7.out.ra.frozen 4
  refine mcl 8 rfl (by kernel_rfl) (by rfl) (fun K hK => ?_)
  go_simp
  have HF8 := Lib.hid (HF7.out.setA (.int .i64 ka) (.int .i64 ca) (.int .u32 xa) (.int .u32 ya) (.int .u32 oa))
  have HN8 := Lib.hid (HN7.out.only (five_only (Only.refl (· = B + 1 + 1) w7) (g := B + 1 + 1) (.inr rfl) (.int .i64 ka) (.int .i64 ca) (.int .u32 xa) (.int .u32 ya) (.int .u32 oa)) (by show ¬ B + 1 + 1 + 1 = B + 1 + 1; omega))
  refine hK.out _ _ ⟨⟨HF8.out.rk.cell_ (i := 0) rfl, HF8.out.rk.cell_ (i := 1) rfl, HF8.out.rk.cell_ (i := 2) rfl, HF8.out.rk.cell_ (i := 3) rfl⟩, HN8.out.cell_ (i := 0) rfl, HN8.out.cell_ (i := 1) rfl, HN8.out.cell_ (i := 2) rfl, HN8.out.cell_ (i := 3) rfl, HN8.out.cell_ (i := 4) rfl⟩ (fun hHeld3 => ?_)
  clear hK K hHeld2 r0 r1 r2 r3 r4 q0 q1 q2 q3 q4 HF7 HN7
  generalize (((((w7.setCell ⟨B + 1 + 1, 0, none⟩ (.int .i64 ka)).setCell ⟨B + 1 + 1, 1, none⟩ (.int .i64 ca)).setCell ⟨B + 1 + 1, 2, none⟩ (.int .u32 xa)).setCell ⟨B + 1 + 1, 3, none⟩ (.int .u32 ya)).setCell ⟨B + 1 + 1, 4, none⟩ (.int .u32 oa)) = w8 at *
  refine wpAnyH_done (by kernel_rfl) ?_ _
  clear hHeld3
  go_wp2
  refine post_two (P := Tryz.prog) Tryz.results32 (by rfl) HF8.out.rn Tryz.underlying27 rfl (by kernel_rfl) (by rfl) HF8.out.ra Tryz.underlying39 rfl (by kernel_rfl) rfl ⟨?_, HF8.out.only, HF8.out.own⟩
  rw [HV.out]; rfl
set_option maxHeartbeats 400000 in
theorem rw_look_hit (base : Nat) (A : Option Addr) (l cp : Nat) (xs : List Int) (n c i : Int) (w : World) (h : Own w base A cp xs) (hn : xs.length = l) (hd : decide (cellI n 2 i < 0) = false) (ht : there xs (wc n i) = true) (hq : (wordAt xs (wc n i) == (c + 1) % 4294967296) = true) :
    Calls Tryz.prog 32 #[.slice A l cp, .int .i64 n, .agg #[.bool true, .int .i64 c, .int .i64 i, .bool false]] w (RStept base A cp ⟨⟨true, c, i, true⟩, doVal xs 1 (wc n i) 0 0, xs⟩ w) := by
  have HT := Lib.hid ht
  have HQ := Lib.hid hq
  clear ht hq
  have HF0 := Lib.hid (RK.start #[.bool true, .int .i64 c, .int .i64 i, .bool false] h)
  have HLN := Lib.hid hn
  clear h hn
  go_enter Tryz.func32, Tryz.ntmps32
  go_wp2_with fail
  refine (refCell_any n 2 i _ (by omega)).mono ?_
  rintro e w1 ⟨rfl, rfl⟩
  go_wp2_with fail
  have e0 := (Only.refl Nil (((w.alloc (.cells #[.bool true, .int .i64 c, .int .i64 i, .bool false] 27)).alloc (.cells #[.bool false, .int .i64 0, .int .i64 0, .bool false] 27)).alloc (.cells #[.int .i64 0, .int .i64 0, .int .u32 0, .int .u32 0, .int .u32 0] 39))).alloc (.cells #[.int .i64 0, .int .i64 0, .int .u32 0, .int .u32 0, .int .u32 0] 39)
  have HF1 := Lib.hid (HF0.out.keep e0)
  have HN := Lib.hid (Row.new (((w.alloc (.cells #[.bool true, .int .i64 c, .int .i64 i, .bool false] 27)).alloc (.cells #[.bool false, .int .i64 0, .int .i64 0, .bool false] 27)).alloc (.cells #[.int .i64 0, .int .i64 0, .int .u32 0, .int .u32 0, .int .u32 0] 39)) 39 #[.int .i64 0, .int .i64 0, .int .u32 0, .int .u32 0, .int .u32 0])
  rw [show (((w.alloc (.cells #[.bool true, .int .i64 c, .int .i64 i, .bool false] 27)).alloc (.cells #[.bool false, .int .i64 0, .int .i64 0, .bool false] 27)).alloc (.cells #[.int .i64 0, .int .i64 0, .int .u32 0, .int .u32 0, .int .u32 0] 39)).heap.size = w.heap.size + 1 + 1 + 1 by simp] at HN
  clear e0 HF0
  generalize (((w.alloc (.cells #[.bool true, .int .i64 c, .int .i64 i, .bool false] 27)).alloc (.cells #[.bool false, .int .i64 0, .int .i64 0, .bool false] 27)).alloc (.cells #[.int .i64 0, .int .i64 0, .int .u32 0, .int .u32 0, .int .u32 0] 39)).alloc (.cells #[.int .i64 0, .int .i64 0, .int .u32 0, .int .u32 0, .int .u32 0] 39) = w1 at *
  generalize w.heap.size = B at *
  refine (refCell_any n 2 i _ (by omega)).mono ?_
  rintro e w9 ⟨rfl, rfl⟩
  rw [show cellI n 2 i = wc n i from rfl]
  go_wp2_with fail
  refine (refdo_any base A l cp xs 1 (wc n i) 0 0 0 _ HF1.out.own HLN.out).mono ?_
  obtain ⟨ka, ca, xa, ya, hv⟩ := doVal_form xs 1 (wc n i) 0 0
  rw [oldAt xs 1 (wc n i) rfl] at hv
  rw [show doOk xs 1 (wc n i) = there xs (wc n i) by simp [doOk, isKind], doNew_load]
  rw [hv, HT.out]
  rintro e w2 ⟨rfl, hO, hM⟩
  have HN1 := Lib.hid (HN.out.only hO (fun e => by have := HF1.out.lt _ e; omega))
  have HF2 := Lib.hid (HF1.out.call hO hM)
  have HV := Lib.hid hv
  clear hO hM hv HF1 HN
  generalize wordAt xs (wc n i) = oa at *
  have r0 : w2.cell? ⟨B + 1 + 1 + 1, 0, none⟩ = some (.int .i64 0) := HN1.out.cell_ (i := 0) rfl
  have r1 : w2.cell? ⟨B + 1 + 1 + 1, 1, none⟩ = some (.int .i64 0) := HN1.out.cell_ (i := 1) rfl
  have r2 : w2.cell? ⟨B + 1 + 1 + 1, 2, none⟩ = some (.int .u32 0) := HN1.out.cell_ (i := 2) rfl
  have r3 : w2.cell? ⟨B + 1 + 1 + 1, 3, none⟩ = some (.int .u32 0) := HN1.out.cell_ (i := 3) rfl
  have r4 : w2.cell? ⟨B + 1 + 1 + 1, 4, none⟩ = some (.int .u32 0) := HN1.out.cell_ (i := 4) rfl
  have q0 : w2.frozen? ⟨B + 1 + 1 + 1, 0, none⟩ = false := HN1.out.frozen 0
  have q1 : w2.frozen? ⟨B + 1 + 1 + 1, 1, none⟩ = false := HN1.out.frozen 1
  have q2 : w2.frozen? ⟨B + 1 + 1 + 1, 2, none⟩ = false := HN1.out.frozen 2
  have q3 : w2.frozen? ⟨B + 1 + 1 + 1, 3, none⟩ = false := HN1.out.frozen 3
  have q4 : w2.frozen? ⟨B + 1 + 1 + 1, 4, none⟩ = false := HN1.out.frozen 4
  have HN2 := Lib.hid (five HN1.out (.int .i64 ka) (.int .i64 ca) (.int .u32 xa) (.int .u32 ya) (.int .u32 oa))
  have HF3 := Lib.hid (HF2.out.far (five_only (Only.refl (· = B + 1 + 1 + 1) w2) (g := B + 1 + 1 + 1) (.inr rfl) (.int .i64 ka) (.int .i64 ca) (.int .u32 xa) (.int .u32 ya) (.int .u32 oa)) (by omega))
  clear HN1 HF2
  go_upto_region 7 with (fail)
  clear r0 r1 r2 r3 r4 q0 q1 q2 q3 q4
  generalize (((((w2.setCell ⟨B + 1 + 1 + 1, 0, none⟩ (.int .i64 ka)).setCell ⟨B + 1 + 1 + 1, 1, none⟩ (.int .i64 ca)).setCell ⟨B + 1 + 1 + 1, 2, none⟩ (.int .u32 xa)).setCell ⟨B + 1 + 1 + 1, 3, none⟩ (.int .u32 ya)).setCell ⟨B + 1 + 1 + 1, 4, none⟩ (.int .u32 oa)) = w3 at *
  have a0 : w3.cell? ⟨B + 1 + 1 + 1, 0, none⟩ = some (.int .i64 ka) := HN2.out.cell_ (i := 0) rfl
  have a1 : w3.cell? ⟨B + 1 + 1 + 1, 1, none⟩ = some (.int .i64 ca) := HN2.out.cell_ (i := 1) rfl
  have a2 : w3.cell? ⟨B + 1 + 1 + 1, 2, none⟩ = some (.int .u32 xa) := HN2.out.cell_ (i := 2) rfl
  have a3 : w3.cell? ⟨B + 1 + 1 + 1, 3, none⟩ = some (.int .u32 ya) := HN2.out.cell_ (i := 3) rfl
  have a4 : w3.cell? ⟨B + 1 + 1 + 1, 4, none⟩ = some (.int .u32 oa) := HN2.out.cell_ (i := 4) rfl
  have q0 := HQ.out
  have k0 : w3.cell? ⟨B, 0, none⟩ = some (.bool true) := HF3.out.rk.cell_ (i := 0) rfl
  have k1 : w3.cell? ⟨B, 1, none⟩ = some (.int .i64 c) := HF3.out.rk.cell_ (i := 1) rfl
  have k2 : w3.cell? ⟨B, 2, none⟩ = some (.int .i64 i) := HF3.out.rk.cell_ (i := 2) rfl
  have k3 : w3.cell? ⟨B, 3, none⟩ = some (.bool false) := HF3.out.rk.cell_ (i := 3) rfl
  have p0 : w3.frozen? ⟨B, 0, none⟩ = false := HF3.out.rk.frozen 0
  have p1 : w3.frozen? ⟨B, 1, none⟩ = false := HF3.out.rk.frozen 1
  have p2 : w3.frozen? ⟨B, 2, none⟩ = false := HF3.out.rk.frozen 2
  have p3 : w3.frozen? ⟨B, 3, none⟩ = false := HF3.out.rk.frozen 3
  go_wp2_with fail
  clear k0 k1 k2 k3 p0 p1 p2 p3 a0 a1 a2 a3 a4 q0
  have HF5 := Lib.hid (HF3.out.setH (.bool true))
  have HN5 := Lib.hid (HN2.out.far (p := ⟨B, 3, none⟩) (by show B + 1 + 1 + 1 ≠ B; omega) (.bool true))
  clear HF3 HN2
  generalize w3.setCell ⟨B, 3, none⟩ (.bool true) = w5 at *
  have a0 : w5.cell? ⟨B + 1 + 1 + 1, 0, none⟩ = some (.int .i64 ka) := HN5.out.cell_ (i := 0) rfl
  have a1 : w5.cell? ⟨B + 1 + 1 + 1, 1, none⟩ = some (.int .i64 ca) := HN5.out.cell_ (i := 1) rfl
  have a2 : w5.cell? ⟨B + 1 + 1 + 1, 2, none⟩ = some (.int .u32 xa) := HN5.out.cell_ (i := 2) rfl
  have a3 : w5.cell? ⟨B + 1 + 1 + 1, 3, none⟩ = some (.int .u32 ya) := HN5.out.cell_ (i := 3) rfl
  have a4 : w5.cell? ⟨B + 1 + 1 + 1, 4, none⟩ = some (.int .u32 oa) := HN5.out.cell_ (i := 4) rfl
  have k0 : w5.cell? ⟨B, 0, none⟩ = some (.bool true) := HF5.out.rk.cell_ (i := 0) rfl
  have k1 : w5.cell? ⟨B, 1, none⟩ = some (.int .i64 c) := HF5.out.rk.cell_ (i := 1) rfl
  have k2 : w5.cell? ⟨B, 2, none⟩ = some (.int .i64 i) := HF5.out.rk.cell_ (i := 2) rfl
  have k3 : w5.cell? ⟨B, 3, none⟩ = some (.bool true) := HF5.out.rk.cell_ (i := 3) rfl
  refine wp_region_held_drew (S := fun w' => (w'.cell? ⟨B, 0, none⟩ = some (.bool true) ∧ w'.cell? ⟨B, 1, none⟩ = some (.int .i64 c) ∧ w'.cell? ⟨B, 2, none⟩ = some (.int .i64 i) ∧ w'.cell? ⟨B, 3, none⟩ = some (.bool true)) ∧ w'.cell? ⟨B + 1 + 1 + 1, 0, none⟩ = some (.int .i64 ka) ∧ w'.cell? ⟨B + 1 + 1 + 1, 1, none⟩ = some (.int .i64 ca) ∧ w'.cell? ⟨B + 1 + 1 + 1, 2, none⟩ = some (.int .u32 xa) ∧ w'.cell? ⟨B + 1 + 1 + 1, 3, none⟩ = some (.int .u32 ya) ∧ w'.cell? ⟨B + 1 + 1 + 1, 4, none⟩ = some (.int .u32 oa)) (by kernel_rfl) ⟨⟨k0, k1, k2, k3⟩, a0, a1, a2, a3, a4⟩ (fun hHeld => ?_)
  have HF6 := Lib.hid (HF5.out.keep (Only.refl Nil w5).drew)
  have HN6 := Lib.hid HN5.out.drew
  clear a0 a1 a2 a3 a4 k0 k1 k2 k3 HF5 HN5
  generalize w5.drew = w6 at *
  refine zk 0 rfl ?_
  refine zk 1 rfl ?_
  have n0 : w6.cell? ⟨B + 1, 0, none⟩ = some (.bool false) := HF6.out.rn.cell_ (i := 0) rfl
  have n1 : w6.cell? ⟨B + 1, 1, none⟩ = some (.int .i64 0) := HF6.out.rn.cell_ (i := 1) rfl
  have n2 : w6.cell? ⟨B + 1, 2, none⟩ = some (.int .i64 0) := HF6.out.rn.cell_ (i := 2) rfl
  have n3 : w6.cell? ⟨B + 1, 3, none⟩ = some (.bool false) := HF6.out.rn.cell_ (i := 3) rfl
  have m0 : w6.frozen? ⟨B + 1, 0, none⟩ = false := HF6.out.rn.frozen 0
  have m1 : w6.frozen? ⟨B + 1, 1, none⟩ = false := HF6.out.rn.frozen 1
  have m2 : w6.frozen? ⟨B + 1, 2, none⟩ = false := HF6.out.rn.frozen 2
  have m3 : w6.frozen? ⟨B + 1, 3, none⟩ = false := HF6.out.rn.frozen 3
  refine mcl 2 rfl (by kernel_rfl) (by rfl) (fun K hK => ?_)
  go_simp
  have HF7 := Lib.hid (HF6.out.setN (.bool true) (.int .i64 (c)) (.int .i64 (i)) (.bool true))
  have HN7 := Lib.hid (HN6.out.only (four_only (Only.refl (· = B + 1) w6) (g := B + 1) (.inr rfl) (.bool true) (.int .i64 (c)) (.int .i64 (i)) (.bool true)) (by show ¬ B + 1 + 1 + 1 = B + 1; omega))
  refine hK.out _ _ ⟨⟨HF7.out.rk.cell_ (i := 0) rfl, HF7.out.rk.cell_ (i := 1) rfl, HF7.out.rk.cell_ (i := 2) rfl, HF7.out.rk.cell_ (i := 3) rfl⟩, HN7.out.cell_ (i := 0) rfl, HN7.out.cell_ (i := 1) rfl, HN7.out.cell_ (i := 2) rfl, HN7.out.cell_ (i := 3) rfl, HN7.out.cell_ (i := 4) rfl⟩ (fun hHeld2 => ?_)
  clear hK K hHeld n0 n1 n2 n3 m0 m1 m2 m3 HF6 HN6
  generalize (((w6.setCell ⟨B + 1, 0, none⟩ (.bool true)).setCell ⟨B + 1, 1, none⟩ (.int .i64 (c))).setCell ⟨B + 1, 2, none⟩ (.int .i64 (i))).setCell ⟨B + 1, 3, none⟩ (.bool true) = w7 at *
  have r0 : w7.cell? ⟨B + 1 + 1, 0, none⟩ = some (.int .i64 0) := HF7.out.ra.cell_ (i := 0) rfl
  have r1 : w7.cell? ⟨B + 1 + 1, 1, none⟩ = some (.int .i64 0) := HF7.out.ra.cell_ (i := 1) rfl
  have r2 : w7.cell? ⟨B + 1 + 1, 2, none⟩ = some (.int .u32 0) := HF7.out.ra.cell_ (i := 2) rfl
  have r3 : w7.cell? ⟨B + 1 + 1, 3, none⟩ = some (.int .u32 0) := HF7.out.ra.cell_ (i := 3) rfl
  have r4 : w7.cell? ⟨B + 1 + 1, 4, none⟩ = some (.int .u32 0) := HF7.out.ra.cell_ (i := 4) rfl
  have q0 : w7.frozen? ⟨B + 1 + 1, 0, none⟩ = false := HF7.out.ra.frozen 0
  have q1 : w7.frozen? ⟨B + 1 + 1, 1, none⟩ = false := HF7.out.ra.frozen 1
  have q2 : w7.frozen? ⟨B + 1 + 1, 2, none⟩ = false := HF7.out.ra.frozen 2
  have q3 : w7.frozen? ⟨B + 1 + 1, 3, none⟩ = false := HF7.out.ra.frozen 3
  have q4 : w7.frozen? ⟨B + 1 + 1, 4, none⟩ = false := HF7.out.ra.frozen 4
  refine mcl 3 rfl (by kernel_rfl) (by rfl) (fun K hK => ?_)
  go_simp
  have HF8 := Lib.hid (HF7.out.setA (.int .i64 ka) (.int .i64 ca) (.int .u32 xa) (.int .u32 ya) (.int .u32 oa))
  have HN8 := Lib.hid (HN7.out.only (five_only (Only.refl (· = B + 1 + 1) w7) (g := B + 1 + 1) (.inr rfl) (.int .i64 ka) (.int .i64 ca) (.int .u32 xa) (.int .u32 ya) (.int .u32 oa)) (by show ¬ B + 1 + 1 + 1 = B + 1 + 1; omega))
  refine hK.out _ _ ⟨⟨HF8.out.rk.cell_ (i := 0) rfl, HF8.out.rk.cell_ (i := 1) rfl, HF8.out.rk.cell_ (i := 2) rfl, HF8.out.rk.cell_ (i := 3) rfl⟩, HN8.out.cell_ (i := 0) rfl, HN8.out.cell_ (i := 1) rfl, HN8.out.cell_ (i := 2) rfl, HN8.out.cell_ (i := 3) rfl, HN8.out.cell_ (i := 4) rfl⟩ (fun hHeld3 => ?_)
  clear hK K hHeld2 r0 r1 r2 r3 r4 q0 q1 q2 q3 q4 HF7 HN7
  generalize (((((w7.setCell ⟨B + 1 + 1, 0, none⟩ (.int .i64 ka)).setCell ⟨B + 1 + 1, 1, none⟩ (.int .i64 ca)).setCell ⟨B + 1 + 1, 2, none⟩ (.int .u32 xa)).setCell ⟨B + 1 + 1, 3, none⟩ (.int .u32 ya)).setCell ⟨B + 1 + 1, 4, none⟩ (.int .u32 oa)) = w8 at *
  refine wpAnyH_done (by kernel_rfl) ?_ _
  clear hHeld3
  go_wp2
  refine post_two (P := Tryz.prog) Tryz.results32 (by rfl) HF8.out.rn Tryz.underlying27 rfl (by kernel_rfl) (by rfl) HF8.out.ra Tryz.underlying39 rfl (by kernel_rfl) rfl ⟨?_, HF8.out.only, HF8.out.own⟩
  rw [HV.out]; rfl
theorem rwake_any (base : Nat) (A : Option Addr) (l cp : Nat) (xs : List Int) (n : Int) (on : Bool) (c i : Int) (hit : Bool) (w : World) (h : Own w base A cp xs) (hn : xs.length = l) :
    Calls Tryz.prog 32 #[.slice A l cp, .int .i64 n, .agg #[.bool on, .int .i64 c, .int .i64 i, .bool hit]] w (RStept base A cp (wakeI xs n on c i hit) w) := by
  cases on
  · exact rw_off base A l cp xs n c i hit w h
  by_cases hv : 1 ≤ n ∧ n ≤ 64 ∧ 0 ≤ i ∧ i < n
  · have hcell : cellI n 2 i = 8 + 2 * n + i := if_pos hv
    have hd : decide (cellI n 2 i < 0) = false := decide_eq_false (by omega)
    cases hit
    · show Calls _ _ _ _ (RStept base A cp (lookI xs n c i) w)
      unfold lookI
      cases ht : there xs (wc n i)
      · exact rw_look_no base A l cp xs n c i w h hn hd ht
      · rw [if_pos rfl]
        by_cases hq : wordAt xs (wc n i) = (c + 1) % 4294967296
        · rw [if_pos hq]
          exact rw_look_hit base A l cp xs n c i w h hn hd ht (beq_iff_eq.2 hq)
        · rw [if_neg hq]
          unfold nextI
          by_cases e : i + 1 = n
          · rw [if_pos e]
            exact rw_look_end base A l cp xs n c i w h hn hd ht (beq_eq_false_iff_ne.2 hq) (by omega) (by omega) (by omega)
          · rw [if_neg e]
            exact rw_look_on base A l cp xs n c i w h hn hd ht (beq_eq_false_iff_ne.2 hq) (by omega) (by omega) (by omega)
    · show Calls _ _ _ _ (RStept base A cp (giveI xs n c i) w)
      unfold giveI
      cases ht : there xs (pc n i)
      · have q := rw_give_no base A l cp xs n c i w h hn hd ht
        rw [show st xs (pc n i) 1 = xs by simp [st, ht]] at q
        exact q
      · rw [if_pos rfl]
        unfold nextI
        by_cases e : i + 1 = n
        · rw [if_pos e]
          exact rw_give_end base A l cp xs n c i w h hn hd ht (by omega) (by omega) (by omega)
        · rw [if_neg e]
          exact rw_give_on base A l cp xs n c i w h hn hd ht (by omega) (by omega) (by omega)
  · have hcell : ∀ r, cellI n r i = -1 := fun r => if_neg hv
    have hd : decide (cellI n 2 i < 0) = true := decide_eq_true (by rw [hcell]; decide)
    have hr : wakeI xs n true c i hit = restI xs := by
      have h1 : there xs (wc n i) = false := by unfold wc; rw [hcell]; simp [there]
      have h2 : there xs (pc n i) = false := by unfold pc; rw [hcell]; simp [there]
      cases hit
      · show lookI xs n c i = _; simp [lookI, h1]
      · show giveI xs n c i = _; simp [giveI, h2]
    rw [hr]
    exact rw_bad base A l cp xs n c i hit w h hn hd
end Go.Proofs.YtaeninikaalkjaaGreat
