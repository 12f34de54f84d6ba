/- WakeStep, LineS, LineT, ParkHas, Stuck, LineStk, StoreM. -/
import Derived.IntWalk
import Derived.Defers
import Derived.Recover
import Derived.Laws.CopyRow
import Derived.Test.YtigdbokfapedcaaGreatB7
import Derived.Test.YtigdbokfapedcaaGreatB6
import Derived.Test.YtigdbokfapedcaaGreatB2
import Derived.Test.YtigdbokfapedcaaGreatB1
/- wake.Step. -/
set_option linter.unusedVariables false
set_option linter.unusedSimpArgs false
namespace Go.Proofs.YtigdbokfapedcaaGreat
open Go.RowKit

/-- What a step of a wake-up leaves, in one. -/
def Stept (p A : Option Addr) (cp : Nat) (r : WakeR) (w : World) (e : Ending) (w' : World) : Prop := Woke p A cp r.next r.acc r.xs w e w'

theorem cell_there {xs : List Int} {n r i : Int} (h : there xs (cellI n r i) = true) : 1 ≤ n ∧ n ≤ 64 ∧ 0 ≤ i ∧ i < n := by
  by_cases e : 1 ≤ n ∧ n ≤ 64 ∧ 0 ≤ i ∧ i < n
  · exact e
  · rw [show cellI n r i = -1 from if_neg e] at h
    simp [there] at h

theorem doVal_rest {xs : List Int} {k c x y : Int} (h : there xs c = false) : doVal xs k c x y = accOf 0 0 0 0 0 := by simp [doVal, doOk, h]
theorem st_rest {xs : List Int} {c u : Int} (h : there xs c = false) : st xs c u = xs := by simp [st, h]

theorem tdo_give (p A : Option Addr) (cp : Nat) (xs : List Int) (n : Int) (on : Bool) (c i : Int) (hit : Bool) (w : World) (h : Memo w p A cp xs) :
    Calls Tryz.prog 281 #[.agg #[.pointer p, .int .i64 n, .bool on, .int .i64 c, .int .i64 i, .bool hit], .func (.func 282) #[.agg #[.pointer p, .int .i64 n, .bool on, .int .i64 c, .int .i64 i, .bool hit]] #[]] w (Stept p A cp (giveI xs n c i) w) := by
  have hg := fun j hj w h => tgive_any p A cp xs n on c i hit j hj w h
  unfold giveI
  cases ht : there xs (pc n i)
  · rw [if_neg (by simp)]
    refine tdo_not _ enters_g p A cp xs xs n on c i hit (IntKind.i64.wrap (i + 1)) false 0 0 0 0 0 w h (fun w h => ?_)
    have q := hg _ rfl w h
    rw [ht, doVal_rest ht, st_rest ht] at q
    exact q
  · rw [if_pos rfl]
    obtain ⟨h1, h2, h3, h4⟩ := cell_there ht
    have hj : IntKind.i64.wrap (i + 1) = i + 1 := IntWalk.i64_in _ (by omega)
    have q := hg _ hj
    obtain ⟨k', c', x', y', hv⟩ := doVal_form xs 2 (pc n i) 1 0
    rw [ht, hv] at q
    show Woke p A cp (nextI n c i) (doVal xs 2 (pc n i) 1 0) (st xs (pc n i) 1) w |> Calls _ _ _ w
    rw [hv]
    unfold nextI
    by_cases e : i + 1 = n
    · rw [if_pos e]
      subst e
      exact tdo_end _ enters_g p A cp xs _ _ on c i hit _ _ _ _ _ w h q
    · rw [if_neg e]
      exact tdo_on _ enters_g p A cp xs _ _ on c i hit _ _ _ _ _ _ _ w h (by simp [e]) q

theorem tdo_look (p A : Option Addr) (cp : Nat) (xs : List Int) (n : Int) (on : Bool) (c i : Int) (hit : Bool) (w : World) (h : Memo w p A cp xs) :
    Calls Tryz.prog 281 #[.agg #[.pointer p, .int .i64 n, .bool on, .int .i64 c, .int .i64 i, .bool hit], .func (.func 283) #[.agg #[.pointer p, .int .i64 n, .bool on, .int .i64 c, .int .i64 i, .bool hit]] #[]] w (Stept p A cp (lookI xs n c i) w) := by
  unfold lookI
  cases ht : there xs (wc n i)
  · rw [if_neg (by simp)]
    by_cases hq : wordAt xs (wc n i) = (c + 1) % 4294967296
    · refine tdo_not _ enters_l p A cp xs xs n on c i hit i true 0 0 0 0 0 w h (fun w h => ?_)
      have q := tlook_yes p A cp xs n on c i hit w h hq
      rw [ht, doVal_rest ht] at q
      exact q
    · refine tdo_not _ enters_l p A cp xs xs n on c i hit (IntKind.i64.wrap (i + 1)) false 0 0 0 0 0 w h (fun w h => ?_)
      have q := tlook_no p A cp xs n on c i hit _ rfl w h hq
      rw [ht, doVal_rest ht] at q
      exact q
  · rw [if_pos rfl]
    obtain ⟨h1, h2, h3, h4⟩ := cell_there ht
    have hj : IntKind.i64.wrap (i + 1) = i + 1 := IntWalk.i64_in _ (by omega)
    obtain ⟨k', c', x', y', hv⟩ := doVal_form xs 1 (wc n i) 0 0
    by_cases hq : wordAt xs (wc n i) = (c + 1) % 4294967296
    · rw [if_pos hq]
      show Woke p A cp ⟨true, c, i, true⟩ (doVal xs 1 (wc n i) 0 0) xs w |> Calls _ _ _ w
      rw [hv]
      refine tdo_on _ enters_l p A cp xs _ _ on c i hit _ _ _ _ _ _ _ w h (by simp) (fun w h => ?_)
      have q := tlook_yes p A cp xs n on c i hit w h hq
      rw [ht, hv] at q
      exact q
    · rw [if_neg hq]
      have q := fun w h => tlook_no p A cp xs n on c i hit _ hj w h hq
      rw [ht, hv] at q
      show Woke p A cp (nextI n c i) (doVal xs 1 (wc n i) 0 0) xs w |> Calls _ _ _ w
      rw [hv]
      unfold nextI
      by_cases e : i + 1 = n
      · rw [if_pos e]
        subst e
        exact tdo_end _ enters_l p A cp xs _ _ on c i hit _ _ _ _ _ w h q
      · rw [if_neg e]
        exact tdo_on _ enters_l p A cp xs _ _ on c i hit _ _ _ _ _ _ _ w h (by simp [e]) q

/-- What a step tells, field by field. -/
theorem wake_form (xs : List Int) (n : Int) (on : Bool) (c i : Int) (hit : Bool) : ∃ ka ca xa ya oa : Int, (wakeI xs n on c i hit).acc = .agg #[.int .i64 ka, .int .i64 ca, .int .u32 xa, .int .u32 ya, .int .u32 oa] := by
  have hv := fun k c x y => doVal_form xs k c x y
  unfold wakeI giveI lookI restI
  repeat' split
  all_goals first | exact ⟨0, 0, 0, 0, 0, rfl⟩ | (obtain ⟨k', c', x', y', e⟩ := hv 2 (pc n i) 1 0; exact ⟨_, _, _, _, _, e⟩) | (obtain ⟨k', c', x', y', e⟩ := hv 1 (wc n i) 0 0; exact ⟨_, _, _, _, _, e⟩)

/-- A step's own blocks: the results. -/
structure KF (w0 : World) (p A : Option Addr) (cp : Nat) (Q : Nat) (nv acs : Array Value) (W : World) (xs : List Int) : Prop where
  only : Only (At A) w0 W
  memo : Memo W p A cp xs
  rn : Row W Q 82 nv
  ra : Row W (Q + 1) 63 acs
  lt : ∀ j, At p j ∨ At A j → j < Q
  hw : w0.heap.size ≤ Q

section
variable {w0 W W' : World} {p A : Option Addr} {cp Q : Nat} {nv acs : Array Value} {xs ys : List Int}
theorem KF.call (h : KF w0 p A cp Q nv acs W xs) (ho : Only (At A) W W') (hm : Memo W' p A cp ys) : KF w0 p A cp Q nv acs W' ys :=
  ⟨h.only.trans ho, hm, h.rn.only ho (fun e => by have := h.lt _ (.inr e); omega), h.ra.only ho (fun e => by have := h.lt _ (.inr e); omega), h.lt, h.hw⟩
theorem KF.keep (h : KF w0 p A cp Q nv acs W xs) (ho : Only Nil W W') : KF w0 p A cp Q nv acs W' xs := h.call (ho.mono (fun _ _ h => h.elim)) (h.memo.keep ho)
theorem KF.setN {a0 a1 a2 a3 : Value} (h : KF w0 p A cp Q #[a0, a1, a2, a3] acs W xs) (v0 v1 v2 v3 : Value) :
    KF w0 p A cp Q #[v0, v1, v2, v3] acs ((((W.setCell ⟨Q, 0, none⟩ v0).setCell ⟨Q, 1, none⟩ v1).setCell ⟨Q, 2, none⟩ v2).setCell ⟨Q, 3, none⟩ v3) xs := by
  have ho := four_only (Only.refl (· = Q) W) (g := Q) (.inr rfl) v0 v1 v2 v3
  exact ⟨four_only h.only (.inl h.hw) _ _ _ _, h.memo.far ho (fun j hj e => by have := h.lt j hj; omega), four h.rn _ _ _ _, h.ra.only ho (fun e => by omega), h.lt, h.hw⟩
theorem KF.setA {a0 a1 a2 a3 a4 : Value} (h : KF w0 p A cp Q nv #[a0, a1, a2, a3, a4] W xs) (v0 v1 v2 v3 v4 : Value) :
    KF w0 p A cp Q nv #[v0, v1, v2, v3, v4] (((((W.setCell ⟨Q + 1, 0, none⟩ v0).setCell ⟨Q + 1, 1, none⟩ v1).setCell ⟨Q + 1, 2, none⟩ v2).setCell ⟨Q + 1, 3, none⟩ v3).setCell ⟨Q + 1, 4, none⟩ v4) xs := by
  have ho := five_only (Only.refl (· = Q + 1) W) (g := Q + 1) (.inr rfl) v0 v1 v2 v3 v4
  exact ⟨five_only h.only (.inl (by have := h.hw; omega)) _ _ _ _ _, h.memo.far ho (fun j hj e => by have := h.lt j hj; omega), h.rn.only ho (fun e => by omega), five h.ra _ _ _ _ _, h.lt, h.hw⟩
theorem KF.start {w W : World} {p A : Option Addr} {cp : Nat} {xs : List Int} (h : Memo w p A cp xs) (hO : Only Nil w W) :
    KF w p A cp W.heap.size #[.bool false, .int .i64 0, .int .i64 0, .bool false] #[.int .i64 0, .int .i64 0, .int .u32 0, .int .u32 0, .int .u32 0] ((W.alloc (.cells #[.bool false, .int .i64 0, .int .i64 0, .bool false] 82)).alloc (.cells #[.int .i64 0, .int .i64 0, .int .u32 0, .int .u32 0, .int .u32 0] 63)) xs := by
  have e0 := (hO.alloc (.cells #[.bool false, .int .i64 0, .int .i64 0, .bool false] 82)).alloc (.cells #[.int .i64 0, .int .i64 0, .int .u32 0, .int .u32 0, .int .u32 0] 63)
  exact ⟨e0.mono (fun _ _ h => h.elim), h.keep e0, (Row.new W _ _).alloc _, Row.new2 W _ _ _, fun j hj => Nat.lt_of_lt_of_le (h.lt j hj) hO.size, hO.size⟩
end

theorem wstep_off (p A : Option Addr) (cp : Nat) (xs : List Int) (n : Int) (c i : Int) (hit : Bool) (w : World) (h : Memo w p A cp xs) :
    Calls Tryz.prog 270 #[.pointer p, .agg #[.int .i64 n], .agg #[.bool false, .int .i64 c, .int .i64 i, .bool hit]] w (Stept p A cp (restI xs) w) := by
  have e0 := ((Only.refl Nil w).alloc (.cells #[.int .i64 n] 49)).alloc (.cells #[.bool false, .int .i64 c, .int .i64 i, .bool hit] 82)
  have HF0 := Lib.hid (KF.start h e0)
  rw [show ((w.alloc (.cells #[.int .i64 n] 49)).alloc (.cells #[.bool false, .int .i64 c, .int .i64 i, .bool hit] 82)).heap.size = w.heap.size + 1 + 1 by simp] at HF0
  clear h e0
  go_enter Tryz.func270, Tryz.ntmps270
  go_wp2
  exact post_two (P := Tryz.prog) Tryz.results270 (by rfl) HF0.out.rn Tryz.underlying82 rfl (by kernel_rfl) (by rfl) HF0.out.ra Tryz.underlying63 rfl (by kernel_rfl) rfl ⟨rfl, HF0.out.only, HF0.out.memo⟩

set_option maxHeartbeats 400000 in
theorem wstep_give (p A : Option Addr) (cp : Nat) (xs : List Int) (n : Int) (c i : Int) (w : World) (h : Memo w p A cp xs) :
    Calls Tryz.prog 270 #[.pointer p, .agg #[.int .i64 n], .agg #[.bool true, .int .i64 c, .int .i64 i, .bool true]] w (Stept p A cp (giveI xs n c i) w) := by
  have e0 := ((Only.refl Nil w).alloc (.cells #[.int .i64 n] 49)).alloc (.cells #[.bool true, .int .i64 c, .int .i64 i, .bool true] 82)
  have HF0 := Lib.hid (KF.start h e0)
  rw [show ((w.alloc (.cells #[.int .i64 n] 49)).alloc (.cells #[.bool true, .int .i64 c, .int .i64 i, .bool true] 82)).heap.size = w.heap.size + 1 + 1 by simp] at HF0
  clear h e0
  have HF1 := Lib.hid (HF0.out.keep ((Only.refl Nil _).alloc (.cells #[.pointer p, .int .i64 n, .bool true, .int .i64 c, .int .i64 i, .bool true] 221)))
  clear HF0
  go_enter Tryz.func270, Tryz.ntmps270
  go_wp2_with fail
  generalize ((((w.alloc (.cells #[.int .i64 n] 49)).alloc (.cells #[.bool true, .int .i64 c, .int .i64 i, .bool true] 82)).alloc (.cells #[.bool false, .int .i64 0, .int .i64 0, .bool false] 82)).alloc (.cells #[.int .i64 0, .int .i64 0, .int .u32 0, .int .u32 0, .int .u32 0] 63)).alloc (.cells #[.pointer p, .int .i64 n, .bool true, .int .i64 c, .int .i64 i, .bool true] 221) = w1 at *
  generalize w.heap.size + 1 + 1 = Q at *
  refine (tdo_give p A cp xs n true c i true _ HF1.out.memo).mono ?_
  obtain ⟨ka, ca, xa, ya, oa, hacc⟩ := wake_form xs n true c i true
  have hrr : wakeI xs n true c i true = giveI xs n c i := rfl
  rw [hrr] at hacc
  clear hrr
  generalize giveI xs n c i = r at *
  obtain ⟨⟨b0, c0, i0, h0⟩, ac, ys⟩ := r
  dsimp only at hacc
  subst hacc
  intro e w2 hF
  obtain ⟨rfl, hO, hM⟩ := hF
  dsimp only [WkV.v] at hM ⊢
  have HF2 := Lib.hid (HF1.out.call hO hM)
  clear hO hM HF1
  have n0 : w2.cell? ⟨Q, 0, none⟩ = some (.bool false) := HF2.out.rn.cell_ (i := 0) rfl
  have n1 : w2.cell? ⟨Q, 1, none⟩ = some (.int .i64 0) := HF2.out.rn.cell_ (i := 1) rfl
  have n2 : w2.cell? ⟨Q, 2, none⟩ = some (.int .i64 0) := HF2.out.rn.cell_ (i := 2) rfl
  have n3 : w2.cell? ⟨Q, 3, none⟩ = some (.bool false) := HF2.out.rn.cell_ (i := 3) rfl
  have m0 : w2.frozen? ⟨Q, 0, none⟩ = false := HF2.out.rn.frozen 0
  have m1 : w2.frozen? ⟨Q, 1, none⟩ = false := HF2.out.rn.frozen 1
  have m2 : w2.frozen? ⟨Q, 2, none⟩ = false := HF2.out.rn.frozen 2
  have m3 : w2.frozen? ⟨Q, 3, none⟩ = false := HF2.out.rn.frozen 3
  have r0 : w2.cell? ⟨Q + 1, 0, none⟩ = some (.int .i64 0) := HF2.out.ra.cell_ (i := 0) rfl
  have r1 : w2.cell? ⟨Q + 1, 1, none⟩ = some (.int .i64 0) := HF2.out.ra.cell_ (i := 1) rfl
  have r2 : w2.cell? ⟨Q + 1, 2, none⟩ = some (.int .u32 0) := HF2.out.ra.cell_ (i := 2) rfl
  have r3 : w2.cell? ⟨Q + 1, 3, none⟩ = some (.int .u32 0) := HF2.out.ra.cell_ (i := 3) rfl
  have r4 : w2.cell? ⟨Q + 1, 4, none⟩ = some (.int .u32 0) := HF2.out.ra.cell_ (i := 4) rfl
  have q0 : w2.frozen? ⟨Q + 1, 0, none⟩ = false := HF2.out.ra.frozen 0
  have q1 : w2.frozen? ⟨Q + 1, 1, none⟩ = false := HF2.out.ra.frozen 1
  have q2 : w2.frozen? ⟨Q + 1, 2, none⟩ = false := HF2.out.ra.frozen 2
  have q3 : w2.frozen? ⟨Q + 1, 3, none⟩ = false := HF2.out.ra.frozen 3
  have q4 : w2.frozen? ⟨Q + 1, 4, none⟩ = false := HF2.out.ra.frozen 4
  go_wp2
  have HF3 := Lib.hid ((HF2.out.setN (.bool b0) (.int .i64 c0) (.int .i64 i0) (.bool h0)).setA (.int .i64 ka) (.int .i64 ca) (.int .u32 xa) (.int .u32 ya) (.int .u32 oa))
  exact post_two (P := Tryz.prog) Tryz.results270 (by rfl) HF3.out.rn Tryz.underlying82 rfl (by kernel_rfl) (by rfl) HF3.out.ra Tryz.underlying63 rfl (by kernel_rfl) rfl ⟨rfl, HF3.out.only, HF3.out.memo⟩

set_option maxHeartbeats 400000 in
theorem wstep_look (p A : Option Addr) (cp : Nat) (xs : List Int) (n : Int) (c i : Int) (w : World) (h : Memo w p A cp xs) :
    Calls Tryz.prog 270 #[.pointer p, .agg #[.int .i64 n], .agg #[.bool true, .int .i64 c, .int .i64 i, .bool false]] w (Stept p A cp (lookI xs n c i) w) := by
  have e0 := ((Only.refl Nil w).alloc (.cells #[.int .i64 n] 49)).alloc (.cells #[.bool true, .int .i64 c, .int .i64 i, .bool false] 82)
  have HF0 := Lib.hid (KF.start h e0)
  rw [show ((w.alloc (.cells #[.int .i64 n] 49)).alloc (.cells #[.bool true, .int .i64 c, .int .i64 i, .bool false] 82)).heap.size = w.heap.size + 1 + 1 by simp] at HF0
  clear h e0
  have HF1 := Lib.hid (HF0.out.keep ((Only.refl Nil _).alloc (.cells #[.pointer p, .int .i64 n, .bool true, .int .i64 c, .int .i64 i, .bool false] 221)))
  clear HF0
  go_enter Tryz.func270, Tryz.ntmps270
  go_wp2_with fail
  generalize ((((w.alloc (.cells #[.int .i64 n] 49)).alloc (.cells #[.bool true, .int .i64 c, .int .i64 i, .bool false] 82)).alloc (.cells #[.bool false, .int .i64 0, .int .i64 0, .bool false] 82)).alloc (.cells #[.int .i64 0, .int .i64 0, .int .u32 0, .int .u32 0, .int .u32 0] 63)).alloc (.cells #[.pointer p, .int .i64 n, .bool true, .int .i64 c, .int .i64 i, .bool false] 221) = w1 at *
  generalize w.heap.size + 1 + 1 = Q at *
  refine (tdo_look p A cp xs n true c i false _ HF1.out.memo).mono ?_
  obtain ⟨ka, ca, xa, ya, oa, hacc⟩ := wake_form xs n true c i false
  have hrr : wakeI xs n true c i false = lookI xs n c i := rfl
  rw [hrr] at hacc
  clear hrr
  generalize lookI xs n c i = r at *
  obtain ⟨⟨b0, c0, i0, h0⟩, ac, ys⟩ := r
  dsimp only at hacc
  subst hacc
  intro e w2 hF
  obtain ⟨rfl, hO, hM⟩ := hF
  dsimp only [WkV.v] at hM ⊢
  have HF2 := Lib.hid (HF1.out.call hO hM)
  clear hO hM HF1
  have n0 : w2.cell? ⟨Q, 0, none⟩ = some (.bool false) := HF2.out.rn.cell_ (i := 0) rfl
  have n1 : w2.cell? ⟨Q, 1, none⟩ = some (.int .i64 0) := HF2.out.rn.cell_ (i := 1) rfl
  have n2 : w2.cell? ⟨Q, 2, none⟩ = some (.int .i64 0) := HF2.out.rn.cell_ (i := 2) rfl
  have n3 : w2.cell? ⟨Q, 3, none⟩ = some (.bool false) := HF2.out.rn.cell_ (i := 3) rfl
  have m0 : w2.frozen? ⟨Q, 0, none⟩ = false := HF2.out.rn.frozen 0
  have m1 : w2.frozen? ⟨Q, 1, none⟩ = false := HF2.out.rn.frozen 1
  have m2 : w2.frozen? ⟨Q, 2, none⟩ = false := HF2.out.rn.frozen 2
  have m3 : w2.frozen? ⟨Q, 3, none⟩ = false := HF2.out.rn.frozen 3
  have r0 : w2.cell? ⟨Q + 1, 0, none⟩ = some (.int .i64 0) := HF2.out.ra.cell_ (i := 0) rfl
  have r1 : w2.cell? ⟨Q + 1, 1, none⟩ = some (.int .i64 0) := HF2.out.ra.cell_ (i := 1) rfl
  have r2 : w2.cell? ⟨Q + 1, 2, none⟩ = some (.int .u32 0) := HF2.out.ra.cell_ (i := 2) rfl
  have r3 : w2.cell? ⟨Q + 1, 3, none⟩ = some (.int .u32 0) := HF2.out.ra.cell_ (i := 3) rfl
  have r4 : w2.cell? ⟨Q + 1, 4, none⟩ = some (.int .u32 0) := HF2.out.ra.cell_ (i := 4) rfl
  have q0 : w2.frozen? ⟨Q + 1, 0, none⟩ = false := HF2.out.ra.frozen 0
  have q1 : w2.frozen? ⟨Q + 1, 1, none⟩ = false := HF2.out.ra.frozen 1
  have q2 : w2.frozen? ⟨Q + 1, 2, none⟩ = false := HF2.out.ra.frozen 2
  have q3 : w2.frozen? ⟨Q + 1, 3, none⟩ = false := HF2.out.ra.frozen 3
  have q4 : w2.frozen? ⟨Q + 1, 4, none⟩ = false := HF2.out.ra.frozen 4
  go_wp2
  have HF3 := Lib.hid ((HF2.out.setN (.bool b0) (.int .i64 c0) (.int .i64 i0) (.bool h0)).setA (.int .i64 ka) (.int .i64 ca) (.int .u32 xa) (.int .u32 ya) (.int .u32 oa))
  exact post_two (P := Tryz.prog) Tryz.results270 (by rfl) HF3.out.rn Tryz.underlying82 rfl (by kernel_rfl) (by rfl) HF3.out.ra Tryz.underlying63 rfl (by kernel_rfl) rfl ⟨rfl, HF3.out.only, HF3.out.memo⟩

/-- Any step. -/
theorem wstep_any (p A : Option Addr) (cp : Nat) (xs : List Int) (n : Int) (on : Bool) (c i : Int) (hit : Bool) (w : World) (h : Memo w p A cp xs) :
    Calls Tryz.prog 270 #[.pointer p, .agg #[.int .i64 n], .agg #[.bool on, .int .i64 c, .int .i64 i, .bool hit]] w (Stept p A cp (wakeI xs n on c i hit) w) := by
  cases on
  · exact wstep_off p A cp xs n c i hit w h
  · cases hit
    · exact wstep_look p A cp xs n c i w h
    · exact wstep_give p A cp xs n c i w h
end Go.Proofs.YtigdbokfapedcaaGreat
/- A run's Step, the program's: of a wake-up, and by lines; Stuck. -/
set_option linter.unusedVariables false
set_option linter.unusedSimpArgs false
namespace Go.Proofs.YtigdbokfapedcaaGreat
open Go.RowKit

/-- Behind a wake-up's step: the wake-up and the words are the step's, the access is told. -/
def Woken (w : World) (B : Nat) (p A : Option Addr) (cp : Nat) (nv : Value) (r : LS) (t : WakeR) (e : Ending) (w' : World) : Prop :=
  e = .returned (ofV t.acc).v ∧ Only (TurnB B A) w w' ∧ RunP w' B p A cp nv { r with k := t.next, xs := t.xs }

set_option maxRecDepth 100000 in
set_option maxHeartbeats 1000000 in
theorem wake_next (B : Nat) (p A : Option Addr) (cp : Nat) (nv : Value) (r : LS) (w : World) (h : RunP w B p A cp nv r) :
    Calls Tryz.prog 234 #[.pointer (some ⟨B, 0, none⟩)] w (Woken w B p A cp nv r r.wakeR) := by
  have e0 := (Only.refl Nil w).alloc (.cells #[.int .i64 0, .int .i64 0, .int .u32 0, .int .u32 0, .int .u32 0] 63)
  have HP := Lib.hid (h.keep e0)
  have HR := Lib.hid (Row.new w 63 #[.int .i64 0, .int .i64 0, .int .u32 0, .int .u32 0, .int .u32 0])
  have HO := Lib.hid (e0.mono (T := TurnB B A) (fun _ _ h => h.elim))
  have HBA := Lib.hid (show w.heap.size ≠ B from fun e => by have := h.row.lt; omega)
  have HAA := Lib.hid (show ¬ At A w.heap.size from fun e => by have := h.memo.lt _ (.inr e); omega)
  have HPA := Lib.hid (show ∀ j, At p j ∨ At A j → j ≠ w.heap.size from fun j e => by have := h.memo.lt _ e; omega)
  have HNA := Lib.hid (show ∀ i, nv.ownBlock = some i → i ≠ w.heap.size from fun i hi e => by have := (World.ownsRow.lt h.notes i hi).2; omega)
  clear h e0
  have hacc := ofV_wake r.xs r.n r.k.on r.k.c r.k.i r.k.hit
  rw [show r.wakeR = wakeI r.xs r.n r.k.on r.k.c r.k.i r.k.hit from rfl]
  generalize hst : wakeI r.xs r.n r.k.on r.k.c r.k.i r.k.hit = t at *
  obtain ⟨nx, ac, zs⟩ := t
  have HST := Lib.hid hst
  have HAC := Lib.hid (show ac = (ofV ac).v from hacc)
  clear hst hacc
  have HDE := Lib.hid (show Woken w B p A cp nv r ⟨nx, ac, zs⟩ = fun e w' => e = .returned (ofV ac).v ∧ Only (TurnB B A) w w' ∧ RunP w' B p A cp nv { r with k := nx, xs := zs } from rfl)
  go_enter Tryz.func234, Tryz.ntmps234
  go_upto_region 1 with (fail)
  generalize w.alloc (.cells #[.int .i64 0, .int .i64 0, .int .u32 0, .int .u32 0, .int .u32 0] 63) = w1 at *
  generalize hgg : w.heap.size = ga at *
  have HG := Lib.hid hgg
  clear hgg
  refine wp_region_phase (n := 23) 14 (fun w => w.cell? ⟨B, 0, none⟩ = some (.pointer p) ∧ w.cell? ⟨B, 1, none⟩ = some (.int .i64 r.n) ∧ w.cell? ⟨B, 9, none⟩ = some (.bool r.k.on) ∧ w.cell? ⟨B, 10, none⟩ = some (.int .i64 r.k.c) ∧ w.cell? ⟨B, 11, none⟩ = some (.int .i64 r.k.i) ∧ w.cell? ⟨B, 12, none⟩ = some (.bool r.k.hit)) rfl (by kernel_rfl)
    ⟨HP.out.row.cell_ (i := 0) rfl, HP.out.row.cell_ (i := 1) rfl, HP.out.row.cell_ (i := 9) rfl, HP.out.row.cell_ (i := 10) rfl, HP.out.row.cell_ (i := 11) rfl, HP.out.row.cell_ (i := 12) rfl⟩ (fun hHeld => ?_)
  have HP1 := Lib.hid (HP.out.keep (Only.refl Nil w1).drew)
  have HR1 := Lib.hid HR.out.drew
  have HO1 := Lib.hid HO.out.drew
  clear HP HR HO
  generalize w1.drew = w2 at *
  refine za 0 rfl ?_
  refine za 1 rfl ?_
  refine za 2 rfl ?_
  refine za 3 rfl ?_
  refine zt 4 rfl ?_
  refine za 5 rfl ?_
  refine za 6 rfl ?_
  refine za 7 rfl ?_
  refine zt 8 rfl ?_
  refine za 9 rfl ?_
  refine za 10 rfl ?_
  refine za 11 rfl ?_
  refine za 12 rfl ?_
  refine zt 13 rfl ?_
  refine mpc 14 rfl (by kernel_rfl) (by rfl) (fun K hK => ?_)
  go_simp
  refine (wstep_any p A cp r.xs r.n r.k.on r.k.c r.k.i r.k.hit _ HP1.out.memo).mono ?_
  rw [HST.out]
  intro e w3 hF
  obtain ⟨rfl, hO, hM⟩ := hF
  dsimp only at hM ⊢
  rw [HAC.out]
  clear HAC
  generalize ofV ac = a5 at *
  dsimp only [Acc5.v, WkV.v]
  have HP2 := Lib.hid (HP1.out.call hO hM)
  have HR2 := Lib.hid (HR1.out.only hO HAA.out)
  have HO2 := Lib.hid (HO1.out.trans hO.turned2)
  refine hK.out _ _ (.inl (by kernel_rfl)) ?_
  clear hK K hHeld hO hM HP1 HR1 HO1

  refine za 15 rfl ?_
  refine za 16 rfl ?_
  refine za 17 rfl ?_
  refine za 18 rfl ?_
  refine za 19 rfl ?_
  refine za 20 rfl ?_
  have a9 : w3.cell? ⟨B, 9, none⟩ = some (.bool r.k.on) := HP2.out.row.cell_ (i := 9) rfl
  have a10 : w3.cell? ⟨B, 10, none⟩ = some (.int .i64 r.k.c) := HP2.out.row.cell_ (i := 10) rfl
  have a11 : w3.cell? ⟨B, 11, none⟩ = some (.int .i64 r.k.i) := HP2.out.row.cell_ (i := 11) rfl
  have a12 : w3.cell? ⟨B, 12, none⟩ = some (.bool r.k.hit) := HP2.out.row.cell_ (i := 12) rfl
  have f9 : w3.frozen? ⟨B, 9, none⟩ = false := HP2.out.row.frozen 9
  have f10 : w3.frozen? ⟨B, 10, none⟩ = false := HP2.out.row.frozen 10
  have f11 : w3.frozen? ⟨B, 11, none⟩ = false := HP2.out.row.frozen 11
  have f12 : w3.frozen? ⟨B, 12, none⟩ = false := HP2.out.row.frozen 12
  refine mpc 21 rfl (by kernel_rfl) (by rfl) (fun K hK => ?_)
  go_simp
  have HP3 := Lib.hid (HP2.out.setWake nx)
  have HO3 := Lib.hid (set_wake_only HO2.out (B := B) (.inl rfl) (.bool nx.on) (.int .i64 nx.c) (.int .i64 nx.i) (.bool nx.hit))
  have HR3 := Lib.hid (HR2.out.only (set_wake_only (Only.refl (· = B) w3) rfl (.bool nx.on) (.int .i64 nx.c) (.int .i64 nx.i) (.bool nx.hit)) HBA.out)
  refine hK.out _ _ (.inl (by kernel_rfl)) ?_
  clear hK K a9 a10 a11 a12 f9 f10 f11 f12 HP2 HO2 HR2
  generalize (((w3.setCell ⟨B, 9, none⟩ (.bool nx.on)).setCell ⟨B, 10, none⟩ (.int .i64 nx.c)).setCell ⟨B, 11, none⟩ (.int .i64 nx.i)).setCell ⟨B, 12, none⟩ (.bool nx.hit) = w4 at *

  have a0 : w4.cell? ⟨ga, 0, none⟩ = some (.int .i64 0) := HR3.out.cell_ (i := 0) rfl
  have a1 : w4.cell? ⟨ga, 1, none⟩ = some (.int .i64 0) := HR3.out.cell_ (i := 1) rfl
  have a2 : w4.cell? ⟨ga, 2, none⟩ = some (.int .u32 0) := HR3.out.cell_ (i := 2) rfl
  have a3 : w4.cell? ⟨ga, 3, none⟩ = some (.int .u32 0) := HR3.out.cell_ (i := 3) rfl
  have a4 : w4.cell? ⟨ga, 4, none⟩ = some (.int .u32 0) := HR3.out.cell_ (i := 4) rfl
  have f0 : w4.frozen? ⟨ga, 0, none⟩ = false := HR3.out.frozen 0
  have f1 : w4.frozen? ⟨ga, 1, none⟩ = false := HR3.out.frozen 1
  have f2 : w4.frozen? ⟨ga, 2, none⟩ = false := HR3.out.frozen 2
  have f3 : w4.frozen? ⟨ga, 3, none⟩ = false := HR3.out.frozen 3
  have f4 : w4.frozen? ⟨ga, 4, none⟩ = false := HR3.out.frozen 4
  refine mpc 22 rfl (by kernel_rfl) (by rfl) (fun K hK => ?_)
  go_simp
  have ho5 := five_only (Only.refl (· = ga) w4) (g := ga) (.inr rfl) (.int .i64 a5.k) (.int .i64 a5.c) (.int .u32 a5.x) (.int .u32 a5.y) (.int .u32 a5.o)
  have HP4 := Lib.hid (HP3.out.apart ho5 (Ne.symm HBA.out) HPA.out HNA.out)
  have HO4 := Lib.hid (five_only HO3.out (g := ga) (.inl (by have := HG.out; omega)) (.int .i64 a5.k) (.int .i64 a5.c) (.int .u32 a5.x) (.int .u32 a5.y) (.int .u32 a5.o))
  have HR4 := Lib.hid (five HR3.out (.int .i64 a5.k) (.int .i64 a5.c) (.int .u32 a5.x) (.int .u32 a5.y) (.int .u32 a5.o))
  refine hK.out _ _ (.inl (by kernel_rfl)) ?_
  clear hK K ho5 a0 a1 a2 a3 a4 f0 f1 f2 f3 f4 HP3 HO3 HR3
  generalize (((((w4.setCell ⟨ga, 0, none⟩ (.int .i64 a5.k)).setCell ⟨ga, 1, none⟩ (.int .i64 a5.c)).setCell ⟨ga, 2, none⟩ (.int .u32 a5.x)).setCell ⟨ga, 3, none⟩ (.int .u32 a5.y)).setCell ⟨ga, 4, none⟩ (.int .u32 a5.o)) = w7 at *

  refine wpAnyP_done (by kernel_rfl) ?_ _
  have a0 : w7.cell? ⟨ga, 0, none⟩ = some (.int .i64 a5.k) := HR4.out.cell_ (i := 0) rfl
  have a1 : w7.cell? ⟨ga, 1, none⟩ = some (.int .i64 a5.c) := HR4.out.cell_ (i := 1) rfl
  have a2 : w7.cell? ⟨ga, 2, none⟩ = some (.int .u32 a5.x) := HR4.out.cell_ (i := 2) rfl
  have a3 : w7.cell? ⟨ga, 3, none⟩ = some (.int .u32 a5.y) := HR4.out.cell_ (i := 3) rfl
  have a4 : w7.cell? ⟨ga, 4, none⟩ = some (.int .u32 a5.o) := HR4.out.cell_ (i := 4) rfl
  have f0 : w7.frozen? ⟨ga, 0, none⟩ = false := HR4.out.frozen 0
  have f1 : w7.frozen? ⟨ga, 1, none⟩ = false := HR4.out.frozen 1
  have f2 : w7.frozen? ⟨ga, 2, none⟩ = false := HR4.out.frozen 2
  have f3 : w7.frozen? ⟨ga, 3, none⟩ = false := HR4.out.frozen 3
  have f4 : w7.frozen? ⟨ga, 4, none⟩ = false := HR4.out.frozen 4
  have ho5 := five_only (Only.refl (· = ga) w7) (g := ga) (.inr rfl) (.int .i64 a5.k) (.int .i64 a5.c) (.int .u32 a5.x) (.int .u32 a5.y) (.int .u32 a5.o)
  have HP5 := Lib.hid (HP4.out.apart ho5 (Ne.symm HBA.out) HPA.out HNA.out)
  have HO5 := Lib.hid (five_only HO4.out (g := ga) (.inl (by have := HG.out; omega)) (.int .i64 a5.k) (.int .i64 a5.c) (.int .u32 a5.x) (.int .u32 a5.y) (.int .u32 a5.o))
  have HR5 := Lib.hid (five HR4.out (.int .i64 a5.k) (.int .i64 a5.c) (.int .u32 a5.x) (.int .u32 a5.y) (.int .u32 a5.o))
  clear ho5 HP4 HO4 HR4
  go_wp2
  exact post_row (P := Tryz.prog) Tryz.results234 (by rfl) HR5.out Tryz.underlying63 rfl (by kernel_rfl) rfl (by rw [HDE.out]; exact ⟨rfl, HO5.out, HP5.out⟩)

theorem wake_do (B : Nat) (p A : Option Addr) (cp : Nat) (nv : Value) (r : LS) (w : World) (h : RunP w B p A cp nv r) :
    Calls Tryz.prog 191 #[.pointer (some ⟨B, 0, none⟩), .func (.func 234) #[.pointer (some ⟨B, 0, none⟩)] #[]] w fun e w' => e = .returned (.tuple #[]) ∧ Only (TurnB B A) w w' ∧ RunP w' B p A cp nv { r with k := r.wakeR.next, xs := r.wakeR.xs, acc := ofV r.wakeR.acc } := by
  have HC := Lib.hid (wake_next B p A cp nv r w h)
  clear h
  generalize r.wakeR = t at *
  obtain ⟨nx, ac, zs⟩ := t
  dsimp only
  have HDE := Lib.hid (show Woken w B p A cp nv r ⟨nx, ac, zs⟩ = fun e w' => e = .returned (ofV ac).v ∧ Only (TurnB B A) w w' ∧ RunP w' B p A cp nv { r with k := nx, xs := zs } from rfl)
  generalize ofV ac = a5 at *
  go_enter Tryz.func191, Tryz.ntmps191
  go_wp2_with fail
  refine HC.out.mono ?_
  rw [HDE.out]
  clear HC HDE
  rintro e w1 ⟨rfl, hO, hP⟩
  dsimp only [Acc5.v]
  have HP := Lib.hid hP
  have HO := Lib.hid hO
  clear hP hO
  have a14 : w1.cell? ⟨B, 14, none⟩ = some (.int .i64 r.acc.k) := HP.out.row.cell_ (i := 14) rfl
  have a15 : w1.cell? ⟨B, 15, none⟩ = some (.int .i64 r.acc.c) := HP.out.row.cell_ (i := 15) rfl
  have a16 : w1.cell? ⟨B, 16, none⟩ = some (.int .u32 r.acc.x) := HP.out.row.cell_ (i := 16) rfl
  have a17 : w1.cell? ⟨B, 17, none⟩ = some (.int .u32 r.acc.y) := HP.out.row.cell_ (i := 17) rfl
  have a18 : w1.cell? ⟨B, 18, none⟩ = some (.int .u32 r.acc.o) := HP.out.row.cell_ (i := 18) rfl
  have f14 : w1.frozen? ⟨B, 14, none⟩ = false := HP.out.row.frozen 14
  have f15 : w1.frozen? ⟨B, 15, none⟩ = false := HP.out.row.frozen 15
  have f16 : w1.frozen? ⟨B, 16, none⟩ = false := HP.out.row.frozen 16
  have f17 : w1.frozen? ⟨B, 17, none⟩ = false := HP.out.row.frozen 17
  have f18 : w1.frozen? ⟨B, 18, none⟩ = false := HP.out.row.frozen 18
  go_wp2
  clear a14 a15 a16 a17 a18 f14 f15 f16 f17 f18
  go_returns
  exact ⟨rfl, set_acc_only HO.out (B := B) (.inl rfl) _ _ _ _ _, HP.out.setAcc a5⟩
end Go.Proofs.YtigdbokfapedcaaGreat
/- A run's Step, the program's, whole; Stuck. -/
set_option linter.unusedVariables false
set_option linter.unusedSimpArgs false
namespace Go.Proofs.YtigdbokfapedcaaGreat
open Go.RowKit

theorem rec_run (w : World) : CallsD Tryz.prog 271 #[] .returning w fun e u' w' => e = .returned (.tuple #[]) ∧ u' = .returning ∧ w = w' := by
  refine callsD_of_wpS Tryz.func271 rfl fun c₀ cs hu => ?_
  apply wpS_region
  simp [wpOpsS, go_sem, recoverD, hu, Tryz.ntmps271, Exit.thenS]
  cases c₀
  simp_all [bodyPostS, results, Tryz.results271]

set_option maxRecDepth 100000 in
theorem neq_nilL (w : World) : (binOp .neq 42 .nilFunc .nilFunc).run Tryz.prog w = .ok (.bool false) w := by
  first | rfl | kernel_rfl

set_option maxRecDepth 100000 in
theorem neq_fnL (f : Fn) (first cap : Array Value) (w : World) : (binOp .neq 42 (.func f first cap) .nilFunc).run Tryz.prog w = .ok (.bool true) w := by
  first | rfl | kernel_rfl

/-- Lines that lead from the run r to the run r', where I holds; they turn T, and Y holds then. -/
def Lined (B : Nat) (p A : Option Addr) (cp : Nat) (fv : Value) (r r' : LS) (T : Nat → Prop) (I Y : World → Prop) : Prop := ∀ w nv, I w → RunP w B p A cp nv r →
  Calls Tryz.prog 235 #[.pointer (some ⟨B, 0, none⟩), fv] w fun e w' => e = .returned (.tuple #[]) ∧ Only T w w' ∧ Y w' ∧ ∃ nv', RunP w' B p A cp nv' r'

theorem lined_nil (B : Nat) (p A : Option Addr) (cp : Nat) (r : LS) (T : Nat → Prop) : Lined B p A cp .nilFunc r r T (fun _ => True) (fun _ => True) := by
  intro w nv _ h
  have hn := neq_nilL
  have HP := Lib.hid h
  clear h
  go_enter_defers Tryz.func235, Tryz.ntmps235
  go_wp2
  refine leaves_cons (f := 271) (args := #[]) (by simp) (by simp [go_sem]) ?_
  refine (rec_run _).mono ?_
  rintro e u' w'' ⟨rfl, rfl, rfl⟩
  exact ⟨_, by simp [results, Tryz.results235, go_sem], rfl, Only.refl _ _, trivial, nv, HP.out⟩

/-- What a step by lines leaves. -/
def Stepd (B : Nat) (p A : Option Addr) (cp : Nat) (r' : LS) (T : Nat → Prop) (Y : World → Prop) (w : World) (e : Ending) (w' : World) : Prop :=
  e = .returned (.bool r'.over) ∧ Only T w w' ∧ Y w' ∧ ∃ nv', RunP w' B p A cp nv' r'

theorem RunP.reset {w : World} {B : Nat} {p A : Option Addr} {cp : Nat} {nv : Value} {r : LS} (h : RunP w B p A cp nv r) :
    RunP ((((((w.setCell ⟨B, 14, none⟩ (.int .i64 0)).setCell ⟨B, 15, none⟩ (.int .i64 0)).setCell ⟨B, 16, none⟩ (.int .u32 0)).setCell ⟨B, 17, none⟩ (.int .u32 0)).setCell ⟨B, 18, none⟩ (.int .u32 0)).setCell ⟨B, 19, none⟩ (.slice none 0 0)) B p A cp (.slice none 0 0) r.fresh := by
  have h1 := h.setAcc acc0
  have ho := (Only.refl (· = B) (((((w.setCell ⟨B, 14, none⟩ (.int .i64 0)).setCell ⟨B, 15, none⟩ (.int .i64 0)).setCell ⟨B, 16, none⟩ (.int .u32 0)).setCell ⟨B, 17, none⟩ (.int .u32 0)).setCell ⟨B, 18, none⟩ (.int .u32 0))).setCell (p := ⟨B, 19, none⟩) (.inr rfl) (.slice none 0 0)
  exact ⟨h1.row.set 19 (.slice none 0 0), ownN_nil _ _, h1.memo.far ho (fun j hj => h1.far hj)⟩

theorem reset_only {S : Nat → Prop} {w w' : World} {B : Nat} (h : Only S w w') (hg : S B) :
    Only S w ((((((w'.setCell ⟨B, 14, none⟩ (.int .i64 0)).setCell ⟨B, 15, none⟩ (.int .i64 0)).setCell ⟨B, 16, none⟩ (.int .u32 0)).setCell ⟨B, 17, none⟩ (.int .u32 0)).setCell ⟨B, 18, none⟩ (.int .u32 0)).setCell ⟨B, 19, none⟩ (.slice none 0 0)) :=
  (set_acc_only h hg _ _ _ _ _).setCell (p := ⟨B, 19, none⟩) (.inr hg) _

/-- The program's run in block B, whatever its notes are. -/
structure RunQ (w : World) (B : Nat) (p A : Option Addr) (cp : Nat) (nv : Value) (r : LS) : Prop where
  row : Row w B 102 (r.cells (.pointer p) nv)
  memo : Memo w p A cp r.xs

theorem RunP.q {w : World} {B : Nat} {p A : Option Addr} {cp : Nat} {nv : Value} {r : LS} (h : RunP w B p A cp nv r) : RunQ w B p A cp nv r := ⟨h.row, h.memo⟩

theorem RunQ.far {w : World} {B : Nat} {p A : Option Addr} {cp : Nat} {nv : Value} {r : LS} (h : RunQ w B p A cp nv r) {j : Nat} (hj : At p j ∨ At A j) : j ≠ B := by
  rintro rfl
  obtain ⟨t, cs, hr, ht⟩ := memo_tag h.memo hj
  have e := (h.row.same hr).1
  rcases ht with rfl | rfl <;> exact absurd e (by decide)

theorem RunQ.reset {w : World} {B : Nat} {p A : Option Addr} {cp : Nat} {nv : Value} {r : LS} (h : RunQ w B p A cp nv r) :
    RunP ((((((w.setCell ⟨B, 14, none⟩ (.int .i64 0)).setCell ⟨B, 15, none⟩ (.int .i64 0)).setCell ⟨B, 16, none⟩ (.int .u32 0)).setCell ⟨B, 17, none⟩ (.int .u32 0)).setCell ⟨B, 18, none⟩ (.int .u32 0)).setCell ⟨B, 19, none⟩ (.slice none 0 0)) B p A cp (.slice none 0 0) r.fresh := by
  have ho := (set_acc_only (Only.refl (· = B) w) (B := B) rfl (.int .i64 0) (.int .i64 0) (.int .u32 0) (.int .u32 0) (.int .u32 0)).setCell (p := ⟨B, 19, none⟩) (.inr rfl) (.slice none 0 0)
  exact ⟨(set_acc_row h.row acc0).set 19 (.slice none 0 0), ownN_nil _ _, h.memo.far ho (fun j hj => h.far hj)⟩



set_option maxHeartbeats 1000000 in
theorem step_wake (B : Nat) (p A : Option Addr) (cp : Nat) (nv fv : Value) (r : LS) (w : World) (h : RunQ w B p A cp nv r) (hon : r.k.on = true) :
    Calls Tryz.prog 164 #[.pointer (some ⟨B, 0, none⟩), fv] w (Stepd B p A cp r.waking (TurnB B A) (fun _ => True) w) := by
  have HON := Lib.hid hon
  clear hon
  generalize hrw : r.waking = r' at *
  have HRW := Lib.hid hrw
  clear hrw
  have a14 : w.cell? ⟨B, 14, none⟩ = some (.int .i64 r.acc.k) := h.row.cell_ (i := 14) rfl
  have a15 : w.cell? ⟨B, 15, none⟩ = some (.int .i64 r.acc.c) := h.row.cell_ (i := 15) rfl
  have a16 : w.cell? ⟨B, 16, none⟩ = some (.int .u32 r.acc.x) := h.row.cell_ (i := 16) rfl
  have a17 : w.cell? ⟨B, 17, none⟩ = some (.int .u32 r.acc.y) := h.row.cell_ (i := 17) rfl
  have a18 : w.cell? ⟨B, 18, none⟩ = some (.int .u32 r.acc.o) := h.row.cell_ (i := 18) rfl
  have a19 : w.cell? ⟨B, 19, none⟩ = some (nv) := h.row.cell_ (i := 19) rfl
  have f14 : w.frozen? ⟨B, 14, none⟩ = false := h.row.frozen 14
  have f15 : w.frozen? ⟨B, 15, none⟩ = false := h.row.frozen 15
  have f16 : w.frozen? ⟨B, 16, none⟩ = false := h.row.frozen 16
  have f17 : w.frozen? ⟨B, 17, none⟩ = false := h.row.frozen 17
  have f18 : w.frozen? ⟨B, 18, none⟩ = false := h.row.frozen 18
  have f19 : w.frozen? ⟨B, 19, none⟩ = false := h.row.frozen 19
  have HP0 := Lib.hid h.reset
  have HO0 := Lib.hid (reset_only (Only.refl (TurnB B A) w) (B := B) (.inl rfl))
  clear h
  go_enter Tryz.func164, Tryz.ntmps164
  go_upto_region 4 with (fail)
  clear a14 a15 a16 a17 a18 a19 f14 f15 f16 f17 f18 f19
  generalize ((((((w.setCell ⟨B, 14, none⟩ (.int .i64 0)).setCell ⟨B, 15, none⟩ (.int .i64 0)).setCell ⟨B, 16, none⟩ (.int .u32 0)).setCell ⟨B, 17, none⟩ (.int .u32 0)).setCell ⟨B, 18, none⟩ (.int .u32 0)).setCell ⟨B, 19, none⟩ (.slice none 0 0)) = w1 at *
  have c9 : w1.cell? ⟨B, 9, none⟩ = some (.bool r.k.on) := HP0.out.row.cell_ (i := 9) rfl
  rw [HON.out] at c9
  go_wp2_with fail
  clear c9
  refine (wake_do B p A cp _ r.fresh _ HP0.out).mono ?_
  rw [show ({ r.fresh with k := r.fresh.wakeR.next, xs := r.fresh.wakeR.xs, acc := ofV r.fresh.wakeR.acc } : LS) = r.waking from rfl, HRW.out]
  rintro e w2 ⟨rfl, hO, hP⟩
  have HP := Lib.hid hP
  have HO := Lib.hid (HO0.out.trans hO)
  clear hP hO HP0 HO0
  have HOV := Lib.hid (show r'.over = ((r'.ret != 0) && !r'.k.on) from rfl)
  have c13 : w2.cell? ⟨B, 13, none⟩ = some (.int .i64 r'.ret) := HP.out.row.cell_ (i := 13) rfl
  have c9 : w2.cell? ⟨B, 9, none⟩ = some (.bool r'.k.on) := HP.out.row.cell_ (i := 9) rfl
  cases hb : (r'.ret != 0)
  · have HB := Lib.hid hb
    have hc : ¬ (!(r'.ret == 0)) = true := by rw [show (!(r'.ret == 0)) = (r'.ret != 0) from rfl, hb]; simp
    go_wp2
    go_ret
    exact ⟨ret_bool (by rw [HOV.out, HB.out, Bool.false_and]), HO.out, trivial, _, HP.out⟩
  · have HB := Lib.hid hb
    cases hk : r'.k.on
    · have HKK := Lib.hid hk
      rw [hk] at c9
      clear hk
      go_wp2
      go_ret
      exact ⟨ret_bool (by rw [HOV.out, HB.out, HKK.out]; rfl), HO.out, trivial, _, HP.out⟩
    · have HKK := Lib.hid hk
      rw [hk] at c9
      clear hk
      go_wp2
      go_ret
      exact ⟨ret_bool (by rw [HOV.out, HB.out, HKK.out]; rfl), HO.out, trivial, _, HP.out⟩

set_option maxHeartbeats 1000000 in
theorem step_lines (B : Nat) (p A : Option Addr) (cp : Nat) (nv fv : Value) (r r' : LS) (T : Nat → Prop) (I Y : World → Prop) (w : World) (h : RunQ w B p A cp nv r) (hoff : r.k.on = false)
    (hl : Lined B p A cp fv r.fresh r' T I Y) (ht : T B) (hi : ∀ w1, Only (· = B) w w1 → I w1) :
    Calls Tryz.prog 164 #[.pointer (some ⟨B, 0, none⟩), fv] w (Stepd B p A cp r' T Y w) := by
  have HON := Lib.hid hoff
  have HLI := Lib.hid hl
  have HT := Lib.hid ht
  have HI := Lib.hid (hi _ (reset_only (Only.refl (· = B) w) (B := B) rfl))
  clear hoff hl ht hi
  have a14 : w.cell? ⟨B, 14, none⟩ = some (.int .i64 r.acc.k) := h.row.cell_ (i := 14) rfl
  have a15 : w.cell? ⟨B, 15, none⟩ = some (.int .i64 r.acc.c) := h.row.cell_ (i := 15) rfl
  have a16 : w.cell? ⟨B, 16, none⟩ = some (.int .u32 r.acc.x) := h.row.cell_ (i := 16) rfl
  have a17 : w.cell? ⟨B, 17, none⟩ = some (.int .u32 r.acc.y) := h.row.cell_ (i := 17) rfl
  have a18 : w.cell? ⟨B, 18, none⟩ = some (.int .u32 r.acc.o) := h.row.cell_ (i := 18) rfl
  have a19 : w.cell? ⟨B, 19, none⟩ = some (nv) := h.row.cell_ (i := 19) rfl
  have f14 : w.frozen? ⟨B, 14, none⟩ = false := h.row.frozen 14
  have f15 : w.frozen? ⟨B, 15, none⟩ = false := h.row.frozen 15
  have f16 : w.frozen? ⟨B, 16, none⟩ = false := h.row.frozen 16
  have f17 : w.frozen? ⟨B, 17, none⟩ = false := h.row.frozen 17
  have f18 : w.frozen? ⟨B, 18, none⟩ = false := h.row.frozen 18
  have f19 : w.frozen? ⟨B, 19, none⟩ = false := h.row.frozen 19
  have HP0 := Lib.hid h.reset
  have HO0 := Lib.hid (reset_only (Only.refl T w) (B := B) HT.out)
  clear h
  go_enter Tryz.func164, Tryz.ntmps164
  go_upto_region 4 with (fail)
  clear a14 a15 a16 a17 a18 a19 f14 f15 f16 f17 f18 f19
  generalize ((((((w.setCell ⟨B, 14, none⟩ (.int .i64 0)).setCell ⟨B, 15, none⟩ (.int .i64 0)).setCell ⟨B, 16, none⟩ (.int .u32 0)).setCell ⟨B, 17, none⟩ (.int .u32 0)).setCell ⟨B, 18, none⟩ (.int .u32 0)).setCell ⟨B, 19, none⟩ (.slice none 0 0)) = w1 at *
  have c9 : w1.cell? ⟨B, 9, none⟩ = some (.bool r.k.on) := HP0.out.row.cell_ (i := 9) rfl
  rw [HON.out] at c9
  go_wp2_with fail
  clear c9
  refine (HLI.out _ _ HI.out HP0.out).mono ?_
  rintro e w2 ⟨rfl, hO, hY, nv', hP⟩
  have HP := Lib.hid hP
  have HY := Lib.hid hY
  have HO := Lib.hid (HO0.out.trans hO)
  clear hP hO hY HP0 HO0 HLI HI
  have HOV := Lib.hid (show r'.over = ((r'.ret != 0) && !r'.k.on) from rfl)
  have c13 : w2.cell? ⟨B, 13, none⟩ = some (.int .i64 r'.ret) := HP.out.row.cell_ (i := 13) rfl
  have c9 : w2.cell? ⟨B, 9, none⟩ = some (.bool r'.k.on) := HP.out.row.cell_ (i := 9) rfl
  cases hb : (r'.ret != 0)
  · have HB := Lib.hid hb
    have hc : ¬ (!(r'.ret == 0)) = true := by rw [show (!(r'.ret == 0)) = (r'.ret != 0) from rfl, hb]; simp
    go_wp2
    go_ret
    exact ⟨ret_bool (by rw [HOV.out, HB.out, Bool.false_and]), HO.out, HY.out, _, HP.out⟩
  · have HB := Lib.hid hb
    cases hk : r'.k.on
    · have HKK := Lib.hid hk
      rw [hk] at c9
      clear hk
      go_wp2
      go_ret
      exact ⟨ret_bool (by rw [HOV.out, HB.out, HKK.out]; rfl), HO.out, HY.out, _, HP.out⟩
    · have HKK := Lib.hid hk
      rw [hk] at c9
      clear hk
      go_wp2
      go_ret
      exact ⟨ret_bool (by rw [HOV.out, HB.out, HKK.out]; rfl), HO.out, HY.out, _, HP.out⟩
end Go.Proofs.YtigdbokfapedcaaGreat
/- park.There. -/
set_option linter.unusedVariables false
set_option linter.unusedSimpArgs false
namespace Go.Proofs.YtigdbokfapedcaaGreat
open Go.RowKit

theorem has_any (p A : Option Addr) (cp : Nat) (xs : List Int) (n i : Int) (w : World) (h : Memo w p A cp xs) :
    Calls Tryz.prog 269 #[.pointer p, .agg #[.int .i64 n], .int .i64 i] w fun e w' =>
      e = .returned (.bool (hasP xs n i)) ∧ Only (At A) w w' ∧ Memo w' p A cp xs := by
  have hok0 : doOk xs 1 (pc n i) = there xs (pc n i) := by simp [doOk, isKind]
  have hst : doNew xs 1 (pc n i) 0 0 = xs := doNew_load xs _ _ _
  have HH := Lib.hid h
  have ha : ∀ j, At p j ∨ At A j → j < w.heap.size := HH.out.lt
  have HA := Lib.hid ha
  clear h ha
  go_enter Tryz.func269, Tryz.ntmps269
  go_wp2_with fail
  have e0 := (Only.refl Nil w).alloc (Obj.cells #[Value.int IntKind.i64 n] 49)
  refine (on_any p A cp xs n i 1 0 0 0 0 _ (HH.out.keep e0)).mono ?_
  obtain ⟨k', c', x', y', hv⟩ := doVal_form xs 1 (pc n i) 0 0
  rw [hv, hok0, hst]
  rintro e w2 ⟨rfl, hO, hM⟩
  have hS : Only (At A) w w2 := (e0.mono (fun _ _ h => h.elim)).trans hO
  have HS := Lib.hid hS
  have HM2 := Lib.hid hM
  clear hO hS hM e0 hv hok0 hst
  have hp : hasP xs n i = (there xs (pc n i) && (wordAt xs (pc n i) != 0)) := by
    unfold hasP wordAt
    cases there xs (pc n i) <;> simp
  cases ht : there xs (pc n i)
  · rw [ht] at hp
    have HP := Lib.hid hp
    clear ht hp
    go_wp2
    go_ret
    exact ⟨by rw [HP.out]; rfl, HS.out.alloc _, HM2.out.keep ((Only.refl Nil w2).alloc _)⟩
  · rw [ht] at hp
    generalize wordAt xs (pc n i) = v at *
    have HP := Lib.hid hp
    clear ht hp
    go_wp2
    go_ret
    exact ⟨by rw [HP.out, Bool.true_and]; rfl, HS.out.alloc _, HM2.out.keep ((Only.refl Nil w2).alloc _)⟩
end Go.Proofs.YtigdbokfapedcaaGreat
/- wait.Stuck. -/
set_option linter.unusedVariables false
set_option linter.unusedSimpArgs false
namespace Go.Proofs.YtigdbokfapedcaaGreat
open Go.RowKit

theorem stuck_any (p A : Option Addr) (cp : Nat) (xs : List Int) (n mode i s : Int) (w : World) (h : Memo w p A cp xs) :
    Calls Tryz.prog 233 #[.pointer p, .agg #[.int .i64 n], .int .i64 mode, .int .i64 i, .agg #[.int .i64 s]] w fun e w' =>
      e = .returned (.bool (stuckB xs n mode i s)) ∧ Only (At A) w w' ∧ Memo w' p A cp xs := by
  have e0 := ((Only.refl (At A) w).alloc (Obj.cells #[Value.int IntKind.i64 n] 49)).alloc (Obj.cells #[Value.int IntKind.i64 s] 80)
  have e1 := ((Only.refl Nil w).alloc (Obj.cells #[Value.int IntKind.i64 n] 49)).alloc (Obj.cells #[Value.int IntKind.i64 s] 80)
  have HH := Lib.hid (h.keep e1)
  have HO := Lib.hid e0
  clear h e0 e1
  by_cases h2 : mode = 2
  · by_cases h3 : s = 3
    · have hs : stuckB xs n mode i s = !hasP xs n i := by rw [h2, h3]; rfl
      rw [hs]
      clear hs
      subst h2 h3
      go_enter Tryz.func233, Tryz.ntmps233
      go_wp2_with fail
      refine (has_any p A cp xs n i _ HH.out).mono ?_
      rintro e w2 ⟨rfl, hO, hM⟩
      have HS := Lib.hid (HO.out.trans hO)
      have HM := Lib.hid hM
      clear hO hM
      go_wp2
      go_ret
      exact ⟨rfl, HS.out, HM.out⟩
    · have hs : stuckB xs n mode i s = false := by unfold stuckB; rw [beq_eq_false_iff_ne.2 h3, Bool.and_false, Bool.false_and]
      rw [hs]
      clear hs
      subst h2
      have h3' := beq_eq_false_iff_ne.2 h3
      go_enter Tryz.func233, Tryz.ntmps233
      go_wp2
      go_ret
      exact ⟨rfl, HO.out, HH.out⟩
  · have hs : stuckB xs n mode i s = false := by unfold stuckB; rw [beq_eq_false_iff_ne.2 h2, Bool.false_and, Bool.false_and]
    rw [hs]
    clear hs
    have h2' := beq_eq_false_iff_ne.2 h2
    go_enter Tryz.func233, Tryz.ntmps233
    go_wp2
    go_ret
    exact ⟨rfl, HO.out, HH.out⟩
end Go.Proofs.YtigdbokfapedcaaGreat
/- line.Stuck, the program's. -/
set_option linter.unusedVariables false
set_option linter.unusedSimpArgs false
namespace Go.Proofs.YtigdbokfapedcaaGreat
open Go.RowKit

/-- line.Stuck, of a run's cells. -/
theorem stuckL_any (p A : Option Addr) (cp : Nat) (nv : Value) (r : LS) (w : World) (h : Memo w p A cp r.xs) :
    Calls Tryz.prog 162 #[.agg (r.cells (.pointer p) nv)] w fun e w' => e = .returned (.bool r.stuck) ∧ Only (At A) w w' ∧ Memo w' p A cp r.xs := by
  obtain ⟨n, mode, task, op, line, a, b, s, ⟨on, kc, ki, hit⟩, ret, ⟨ak, ac, ax, ay, ao⟩, ns, xs⟩ := r
  dsimp only [LS.cells, LS.stuck] at h ⊢
  have e0 := (Only.refl Nil w).alloc (.cells #[.pointer p, .int .i64 n, .int .i64 mode, .int .i64 task, .int .i64 op, .int .i64 line, .int .u32 a, .int .u32 b, .int .i64 s, .bool on, .int .i64 kc, .int .i64 ki, .bool hit, .int .i64 ret, .int .i64 ak, .int .i64 ac, .int .u32 ax, .int .u32 ay, .int .u32 ao, nv] 102)
  have HR := Lib.hid (Row.new w 102 #[.pointer p, .int .i64 n, .int .i64 mode, .int .i64 task, .int .i64 op, .int .i64 line, .int .u32 a, .int .u32 b, .int .i64 s, .bool on, .int .i64 kc, .int .i64 ki, .bool hit, .int .i64 ret, .int .i64 ak, .int .i64 ac, .int .u32 ax, .int .u32 ay, .int .u32 ao, nv])
  have HM := Lib.hid (h.keep e0)
  have HO := Lib.hid (e0.mono (T := At A) (fun _ _ h => h.elim))
  clear h e0
  cases on
  · go_enter Tryz.func162, Tryz.ntmps162
    go_upto_region 1 with (fail)
    generalize w.alloc (.cells #[.pointer p, .int .i64 n, .int .i64 mode, .int .i64 task, .int .i64 op, .int .i64 line, .int .u32 a, .int .u32 b, .int .i64 s, .bool false, .int .i64 kc, .int .i64 ki, .bool hit, .int .i64 ret, .int .i64 ak, .int .i64 ac, .int .u32 ax, .int .u32 ay, .int .u32 ao, nv] 102) = w1 at *
    generalize w.heap.size = g at *
    have a0 : w1.cell? ⟨g, 0, none⟩ = some (.pointer p) := HR.out.cell_ (i := 0) rfl
    have a1 : w1.cell? ⟨g, 1, none⟩ = some (.int .i64 n) := HR.out.cell_ (i := 1) rfl
    have a2 : w1.cell? ⟨g, 2, none⟩ = some (.int .i64 mode) := HR.out.cell_ (i := 2) rfl
    have a3 : w1.cell? ⟨g, 3, none⟩ = some (.int .i64 task) := HR.out.cell_ (i := 3) rfl
    have a8 : w1.cell? ⟨g, 8, none⟩ = some (.int .i64 s) := HR.out.cell_ (i := 8) rfl
    have a9 : w1.cell? ⟨g, 9, none⟩ = some (.bool false) := HR.out.cell_ (i := 9) rfl
    go_wp2_with fail
    clear a0 a1 a2 a3 a8 a9
    refine (stuck_any p A cp xs n mode task s _ HM.out).mono ?_
    rintro e w2 ⟨rfl, hO, hM⟩
    have HM2 := Lib.hid hM
    have HO2 := Lib.hid (HO.out.trans hO)
    clear hO hM
    go_wp2
    go_ret
    exact ⟨ret_bool (by rfl), HO2.out, HM2.out⟩
  · go_enter Tryz.func162, Tryz.ntmps162
    go_upto_region 1 with (fail)
    generalize w.alloc (.cells #[.pointer p, .int .i64 n, .int .i64 mode, .int .i64 task, .int .i64 op, .int .i64 line, .int .u32 a, .int .u32 b, .int .i64 s, .bool true, .int .i64 kc, .int .i64 ki, .bool hit, .int .i64 ret, .int .i64 ak, .int .i64 ac, .int .u32 ax, .int .u32 ay, .int .u32 ao, nv] 102) = w1 at *
    generalize w.heap.size = g at *
    have a9 : w1.cell? ⟨g, 9, none⟩ = some (.bool true) := HR.out.cell_ (i := 9) rfl
    go_wp2
    go_ret
    exact ⟨ret_bool (by rfl), HO.out, HM.out⟩
end Go.Proofs.YtigdbokfapedcaaGreat
/- A struct stored into a block that is known whole, or loaded from one. -/
set_option linter.unusedVariables false
set_option linter.unusedSimpArgs false
namespace Go.Proofs.YtigdbokfapedcaaGreat
open Go.RowKit
def putL (cs : Array Value) (o : Nat) (vs : List Value) : Array Value := (cs.toList.take o ++ vs ++ cs.toList.drop (o + vs.length)).toArray
theorem putL_all {cs vs : Array Value} (h : vs.size = cs.size) : putL cs 0 vs.toList = vs := by
  unfold putL
  rw [List.take_zero, List.nil_append, List.drop_eq_nil_of_le (by simp; omega), List.append_nil]
theorem putL_size {cs : Array Value} {o : Nat} {vs : List Value} (h : o + vs.length ≤ cs.size) : (putL cs o vs).size = cs.size := by
  unfold putL
  simp
  omega
theorem putL_at {cs : Array Value} {o j : Nat} {vs : List Value} {v : Value} (hj : vs[j]? = some v) (h : o + vs.length ≤ cs.size) : (putL cs o vs)[o + j]? = some v := by
  have hl := (List.getElem?_eq_some_iff.1 hj).1
  unfold putL
  rw [List.getElem?_toArray, List.getElem?_append_left (by simp; omega), List.getElem?_append_right (by simp; omega), show o + j - (List.take o cs.toList).length = j by simp; omega]
  exact hj
theorem putL_far {cs : Array Value} {o i : Nat} {vs : List Value} (hi : i < o ∨ o + vs.length ≤ i) (h : o + vs.length ≤ cs.size) : (putL cs o vs)[i]? = cs[i]? := by
  unfold putL
  rw [List.getElem?_toArray]
  rcases hi with hi | hi
  · rw [List.getElem?_append_left (by simp; omega), List.getElem?_append_left (by simp; omega), List.getElem?_take, if_pos hi, Array.getElem?_toList]
  · rw [List.getElem?_append_right (by simp; omega), List.getElem?_drop, show o + vs.length + (i - (List.take o cs.toList ++ vs).length) = i by simp; omega, Array.getElem?_toList]
theorem Row.setRow {w : World} {g : Nat} {t : TypeId} {cs : Array Value} (h : Row w g t cs) (ds : Array Value) : Row (w.setRow g ds) g t ds := setRow_heap w g cs ds t (0, 0) h
theorem Only.setRow {S : Nat → Prop} {w w' : World} (h : Only S w w') {g : Nat} (hg : w.heap.size ≤ g ∨ S g) (ds : Array Value) : Only S w (w'.setRow g ds) :=
  ⟨h.os, h.tape, h.output, by rw [setRow_size]; exact h.size, fun i hi hS => (setRow_other w' g i ds (by
    rintro rfl
    rcases hg with hg | hg
    · omega
    · exact hS hg)).trans (h.block i hi hS)⟩
section
variable {P : Program} {a : Act} {o : Oper} {ty t : TypeId} {x y : Operand} {B off : Nat} {w : World} {cs vs : Array Value} {Q : Exit → Act → World → Prop}
theorem exec_storeR (ho : o.op = .store ty x y) (hx : a.eval x = .pointer (some ⟨B, off, none⟩)) (hy : a.eval y = .agg vs) (hg : Row w B t cs)
    (hi : (P.info? ty).map (·.size) = some vs.size) (hf : off + vs.size ≤ cs.size) (h1 : vs.toList.all (fun v => v.oneCell') = true) : (execOp a.eval o).run P w = .ok .skip (w.setRow B (putL cs off vs.toList)) := by
  obtain ⟨i, hii, his⟩ := Option.map_eq_some_iff.1 hi
  have h := run_storeCells_at P B off t vs.toList 0 cs w hg (by simpa using hf) (List.all_eq_true.1 h1)
  unfold execOp
  simp [ho, hx, hy, Instr.storeAt, Instr.sureAddr, storeVar, sizeOf, typeInfo, hii, his, Value.cells, h, putL]
theorem wp_storeR' {K : Act → World → Prop} (ty : TypeId) (x y : Operand) (ho : o.op = .store ty x y) (hx : a.eval x = .pointer (some ⟨B, off, none⟩)) (hy : a.eval y = .agg vs) (hg : Row w B t cs)
    (hi : (P.info? ty).map (·.size) = some vs.size) (hf : off + vs.size ≤ cs.size) (h1 : vs.toList.all (fun v => v.oneCell') = true) (h : K (a.put o.dst undef) (w.setRow B (putL cs off vs.toList))) : o.wp P a w K Q := by
  unfold Oper.wp
  rw [exec_storeR ho hx hy hg hi hf h1]
  exact h
theorem wp_storeR {ops : Array Oper} {rest : List Oper} (hgd : o.guard = none) (ty : TypeId) (x y : Operand) (ho : o.op = .store ty x y) (hx : a.eval x = .pointer (some ⟨B, off, none⟩)) (hy : a.eval y = .agg vs) (hg : Row w B t cs)
    (hi : (P.info? ty).map (·.size) = some vs.size) (hf : off + vs.size ≤ cs.size) (h1 : vs.toList.all (fun v => v.oneCell') = true) (h : wpList P ops Q rest (a.put o.dst undef) (w.setRow B (putL cs off vs.toList))) : wpList P ops Q (o :: rest) a w :=
  wpList_plain hgd fun _ hK => wp_storeR' ty x y ho hx hy hg hi hf h1 (hK _ _ h)
theorem exec_loadS (ho : o.op = .load ty x) (hx : a.eval x = .pointer (some ⟨B, 0, none⟩)) (hg : Row w B t cs) {d : TypeDesc}
    (hu : P.underlying ty = some d) (hd : (match d with | .struct _ | .array _ _ => true | _ => false) = true) (hi : (P.info? ty).map (·.size) = some cs.size) : (execOp a.eval o).run P w = .ok (.value (.agg cs)) w := by
  have h := run_loadVar_row (P := P) w B t ty cs (0, 0) d hg hu hd hi
  unfold execOp
  simp [ho, hx, Instr.loadAt, Instr.sureAddr, h]
theorem wp_loadS {ops : Array Oper} {rest : List Oper} (hgd : o.guard = none) (ty : TypeId) (x : Operand) (ho : o.op = .load ty x) (hx : a.eval x = .pointer (some ⟨B, 0, none⟩)) (hg : Row w B t cs) {d : TypeDesc}
    (hu : P.underlying ty = some d) (hd : (match d with | .struct _ | .array _ _ => true | _ => false) = true) (hi : (P.info? ty).map (·.size) = some cs.size) (h : wpList P ops Q rest (a.put o.dst (.agg cs)) w) : wpList P ops Q (o :: rest) a w := by
  refine wpList_plain hgd fun K hK => ?_
  unfold Oper.wp
  rw [exec_loadS ho hx hg hu hd hi]
  exact hK _ _ h
end
end Go.Proofs.YtigdbokfapedcaaGreat
