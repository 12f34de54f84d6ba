import Derived.IntWalk
import Derived.Defers
import Derived.Recover
import Derived.Test.YtaeninikaalkjaaGreatH9
import Derived.Test.YtaeninikaalkjaaGreatH10
import Derived.Test.YtaeninikaalkjaaGreatH7
set_option linter.unusedVariables false
set_option linter.unusedSimpArgs false
namespace Go.Proofs.YtaeninikaalkjaaGreat
open Go.RowKit
def Stept (p A : Option Addr) (cp : Nat) (r : WakeR) (w : World) (e : Ending) (w' : World) : Prop := Woke p A cp r.next r.acc r.xs w e w'
theorem cell_there {xs : List Int} {n r i : Int} (h : there xs (cellI n r i) = true) : 1 ≤ n ∧ n ≤ 64 ∧ 0 ≤ i ∧ i < n := by
  by_cases e : 1 ≤ n ∧ n ≤ 64 ∧ 0 ≤ i ∧ i < n
  · exact e
  · rw [show cellI n r i = -1 from if_neg e] at h
    simp [there] at h
theorem doVal_rest {xs : List Int} {k c x y : Int} (h : there xs c = false) : doVal xs k c x y = accOf 0 0 0 0 0 := by simp [doVal, doOk, h]
theorem st_rest {xs : List Int} {c u : Int} (h : there xs c = false) : st xs c u = xs := by simp [st, h]
theorem tdo_give (p A : Option Addr) (cp : Nat) (xs : List Int) (n : Int) (on : Bool) (c i : Int) (hit : Bool) (w : World) (h : Memo w p A cp xs) :
    Calls Tryz.prog 83 #[.agg #[.pointer p, .int .i64 n, .bool on, .int .i64 c, .int .i64 i, .bool hit], .func (.func 84) #[.agg #[.pointer p, .int .i64 n, .bool on, .int .i64 c, .int .i64 i, .bool hit]] #[]] w (Stept p A cp (giveI xs n c i) w) := by
  have hg := fun j hj w h => tgive_any p A cp xs n on c i hit j hj w h
  unfold giveI
  cases ht : there xs (pc n i)
  · rw [if_neg (by simp)]
    refine tdo_not _ enters_g p A cp xs xs n on c i hit (IntKind.i64.wrap (i + 1)) false 0 0 0 0 0 w h (fun w h => ?_)
    have q := hg _ rfl w h
    rw [ht, doVal_rest ht, st_rest ht] at q
    exact q
  · rw [if_pos rfl]
    obtain ⟨h1, h2, h3, h4⟩ := cell_there ht
    have hj : IntKind.i64.wrap (i + 1) = i + 1 := IntWalk.i64_in _ (by omega)
    have q := hg _ hj
    obtain ⟨k', c', x', y', hv⟩ := doVal_form xs 2 (pc n i) 1 0
    rw [ht, hv] at q
    show Woke p A cp (nextI n c i) (doVal xs 2 (pc n i) 1 0) (st xs (pc n i) 1) w |> Calls _ _ _ w
    rw [hv]
    unfold nextI
    by_cases e : i + 1 = n
    · rw [if_pos e]
      subst e
      exact tdo_end _ enters_g p A cp xs _ _ on c i hit _ _ _ _ _ w h q
    · rw [if_neg e]
      exact tdo_on _ enters_g p A cp xs _ _ on c i hit _ _ _ _ _ _ _ w h (by simp [e]) q
theorem tdo_look (p A : Option Addr) (cp : Nat) (xs : List Int) (n : Int) (on : Bool) (c i : Int) (hit : Bool) (w : World) (h : Memo w p A cp xs) :
    Calls Tryz.prog 83 #[.agg #[.pointer p, .int .i64 n, .bool on, .int .i64 c, .int .i64 i, .bool hit], .func (.func 85) #[.agg #[.pointer p, .int .i64 n, .bool on, .int .i64 c, .int .i64 i, .bool hit]] #[]] w (Stept p A cp (lookI xs n c i) w) := by
  unfold lookI
  cases ht : there xs (wc n i)
  · rw [if_neg (by simp)]
    by_cases hq : wordAt xs (wc n i) = (c + 1) % 4294967296
    · refine tdo_not _ enters_l p A cp xs xs n on c i hit i true 0 0 0 0 0 w h (fun w h => ?_)
      have q := tlook_yes p A cp xs n on c i hit w h hq
      rw [ht, doVal_rest ht] at q
      exact q
    · refine tdo_not _ enters_l p A cp xs xs n on c i hit (IntKind.i64.wrap (i + 1)) false 0 0 0 0 0 w h (fun w h => ?_)
      have q := tlook_no p A cp xs n on c i hit _ rfl w h hq
      rw [ht, doVal_rest ht] at q
      exact q
  · rw [if_pos rfl]
    obtain ⟨h1, h2, h3, h4⟩ := cell_there ht
    have hj : IntKind.i64.wrap (i + 1) = i + 1 := IntWalk.i64_in _ (by omega)
    obtain ⟨k', c', x', y', hv⟩ := doVal_form xs 1 (wc n i) 0 0
    by_cases hq : wordAt xs (wc n i) = (c + 1) % 4294967296
    · rw [if_pos hq]
      show Woke p A cp ⟨true, c, i, true⟩ (doVal xs 1 (wc n i) 0 0) xs w |> Calls _ _ _ w
      rw [hv]
      refine tdo_on _ enters_l p A cp xs _ _ on c i hit _ _ _ _ _ _ _ w h (by simp) (fun w h => ?_)
      have q := tlook_yes p A cp xs n on c i hit w h hq
      rw [ht, hv] at q
      exact q
    · rw [if_neg hq]
      have q := fun w h => tlook_no p A cp xs n on c i hit _ hj w h hq
      rw [ht, hv] at q
      show Woke p A cp (nextI n c i) (doVal xs 1 (wc n i) 0 0) xs w |> Calls _ _ _ w
      rw [hv]
      unfold nextI
      by_cases e : i + 1 = n
      · rw [if_pos e]
        subst e
        exact tdo_end _ enters_l p A cp xs _ _ on c i hit _ _ _ _ _ w h q
      · rw [if_neg e]
        exact tdo_on _ enters_l p A cp xs _ _ on c i hit _ _ _ _ _ _ _ w h (by simp [e]) q
theorem wake_form (xs : List Int) (n : Int) (on : Bool) (c i : Int) (hit : Bool) : ∃ ka ca xa ya oa : Int, (wakeI xs n on c i hit).acc = .agg #[.int .i64 ka, .int .i64 ca, .int .u32 xa, .int .u32 ya, .int .u32 oa] := by
  have hv := fun k c x y => doVal_form xs k c x y
  unfold wakeI giveI lookI restI
  repeat' split
  all_goals first | exact ⟨0, 0, 0, 0, 0, rfl⟩ | (obtain ⟨k', c', x', y', e⟩ := hv 2 (pc n i) 1 0; exact ⟨_, _, _, _, _, e⟩) | (obtain ⟨k', c', x', y', e⟩ := hv 1 (wc n i) 0 0; exact ⟨_, _, _, _, _, e⟩)
structure KF (w0 : World) (p A : Option Addr) (cp : Nat) (Q : Nat) (nv acs : Array Value) (W : World) (xs : List Int) : Prop where
  only : Only (At A) w0 W
  memo : Memo W p A cp xs
  rn : Row W Q 27 nv
  ra : Row W (Q + 1) 39 acs
  lt : ∀ j, At p j ∨ At A j → j < Q
  hw : w0.heap.size ≤ Q
section
variable {w0 W W' : World} {p A : Option Addr} {cp Q : Nat} {nv acs : Array Value} {xs ys : List Int}
theorem KF.call (h : KF w0 p A cp Q nv acs W xs) (ho : Only (At A) W W') (hm : Memo W' p A cp ys) : KF w0 p A cp Q nv acs W' ys :=
  ⟨h.only.trans ho, hm, h.rn.only ho (fun e => by have := h.lt _ (.inr e); omega), h.ra.only ho (fun e => by have := h.lt _ (.inr e); omega), h.lt, h.hw⟩
theorem KF.keep (h : KF w0 p A cp Q nv acs W xs) (ho : Only Nil W W') : KF w0 p A cp Q nv acs W' xs := h.call (ho.mono (fun _ _ h => h.elim)) (h.memo.keep ho)
theorem KF.setN {a0 a1 a2 a3 : Value} (h : KF w0 p A cp Q #[a0, a1, a2, a3] acs W xs) (v0 v1 v2 v3 : Value) :
    KF w0 p A cp Q #[v0, v1, v2, v3] acs ((((W.setCell ⟨Q, 0, none⟩ v0).setCell ⟨Q, 1, none⟩ v1).setCell ⟨Q, 2, none⟩ v2).setCell ⟨Q, 3, none⟩ v3) xs := by
  have ho := four_only (Only.refl (· = Q) W) (g := Q) (.inr rfl) v0 v1 v2 v3
  exact ⟨four_only h.only (.inl h.hw) _ _ _ _, h.memo.far ho (fun j hj e => by have := h.lt j hj; omega), four h.rn _ _ _ _, h.ra.only ho (fun e => by omega), h.lt, h.hw⟩
theorem KF.setA {a0 a1 a2 a3 a4 : Value} (h : KF w0 p A cp Q nv #[a0, a1, a2, a3, a4] W xs) (v0 v1 v2 v3 v4 : Value) :
    KF w0 p A cp Q nv #[v0, v1, v2, v3, v4] (((((W.setCell ⟨Q + 1, 0, none⟩ v0).setCell ⟨Q + 1, 1, none⟩ v1).setCell ⟨Q + 1, 2, none⟩ v2).setCell ⟨Q + 1, 3, none⟩ v3).setCell ⟨Q + 1, 4, none⟩ v4) xs := by
  have ho := five_only (Only.refl (· = Q + 1) W) (g := Q + 1) (.inr rfl) v0 v1 v2 v3 v4
  exact ⟨five_only h.only (.inl (by have := h.hw; omega)) _ _ _ _ _, h.memo.far ho (fun j hj e => by have := h.lt j hj; omega), h.rn.only ho (fun e => by omega), five h.ra _ _ _ _ _, h.lt, h.hw⟩
theorem KF.start {w W : World} {p A : Option Addr} {cp : Nat} {xs : List Int} (h : Memo w p A cp xs) (hO : Only Nil w W) :
    KF w p A cp W.heap.size #[.bool false, .int .i64 0, .int .i64 0, .bool false] #[.int .i64 0, .int .i64 0, .int .u32 0, .int .u32 0, .int .u32 0] ((W.alloc (.cells #[.bool false, .int .i64 0, .int .i64 0, .bool false] 27)).alloc (.cells #[.int .i64 0, .int .i64 0, .int .u32 0, .int .u32 0, .int .u32 0] 39)) xs := by
  have e0 := (hO.alloc (.cells #[.bool false, .int .i64 0, .int .i64 0, .bool false] 27)).alloc (.cells #[.int .i64 0, .int .i64 0, .int .u32 0, .int .u32 0, .int .u32 0] 39)
  exact ⟨e0.mono (fun _ _ h => h.elim), h.keep e0, (Row.new W _ _).alloc _, Row.new2 W _ _ _, fun j hj => Nat.lt_of_lt_of_le (h.lt j hj) hO.size, hO.size⟩
end
theorem wstep_off (p A : Option Addr) (cp : Nat) (xs : List Int) (n : Int) (c i : Int) (hit : Bool) (w : World) (h : Memo w p A cp xs) :
    Calls Tryz.prog 50 #[.pointer p, .agg #[.int .i64 n], .agg #[.bool false, .int .i64 c, .int .i64 i, .bool hit]] w (Stept p A cp (restI xs) w) := by
  have e0 := ((Only.refl Nil w).alloc (.cells #[.int .i64 n] 37)).alloc (.cells #[.bool false, .int .i64 c, .int .i64 i, .bool hit] 27)
  have HF0 := Lib.hid (KF.start h e0)
  rw [show ((w.alloc (.cells #[.int .i64 n] 37)).alloc (.cells #[.bool false, .int .i64 c, .int .i64 i, .bool hit] 27)).heap.size = w.heap.size + 1 + 1 by simp] at HF0
  clear h e0
  go_enter Tryz.func50, Tryz.ntmps50
  go_wp2
  exact post_two (P := Tryz.prog) Tryz.results50 (by rfl) HF0.out.rn Tryz.underlying27 rfl (by kernel_rfl) (by rfl) HF0.out.ra Tryz.underlying39 rfl (by kernel_rfl) rfl ⟨rfl, HF0.out.only, HF0.out.memo⟩
set_option maxHeartbeats 400000 in
theorem wstep_give (p A : Option Addr) (cp : Nat) (xs : List Int) (n : Int) (c i : Int) (w : World) (h : Memo w p A cp xs) :
    Calls Tryz.prog 50 #[.pointer p, .agg #[.int .i64 n], .agg #[.bool true, .int .i64 c, .int .i64 i, .bool true]] w (Stept p A cp (giveI xs n c i) w) := by
  have e0 := ((Only.refl Nil w).alloc (.cells #[.int .i64 n] 37)).alloc (.cells #[.bool true, .int .i64 c, .int .i64 i, .bool true] 27)
  have HF0 := Lib.hid (KF.start h e0)
  rw [show ((w.alloc (.cells #[.int .i64 n] 37)).alloc (.cells #[.bool true, .int .i64 c, .int .i64 i, .bool true] 27)).heap.size = w.heap.size + 1 + 1 by simp] at HF0
  clear h e0
  have HF1 := Lib.hid (HF0.out.keep ((Only.refl Nil _).alloc (.cells #[.pointer p, .int .i64 n, .bool true, .int .i64 c, .int .i64 i, .bool true] 119)))
  clear HF0
  go_enter Tryz.func50, Tryz.ntmps50
  go_wp2_with fail
  generalize ((((w.alloc (.cells #[.int .i64 n] 37)).alloc (.cells #[.bool true, .int .i64 c, .int .i64 i, .bool true] 27)).alloc (.cells #[.bool false, .int .i64 0, .int .i64 0, .bool false] 27)).alloc (.cells #[.int .i64 0, .int .i64 0, .int .u32 0, .int .u32 0, .int .u32 0] 39)).alloc (.cells #[.pointer p, .int .i64 n, .bool true, .int .i64 c, .int .i64 i, .bool true] 119) = w1 at *
  generalize w.heap.size + 1 + 1 = Q at *
  refine (tdo_give p A cp xs n true c i true _ HF1.out.memo).mono ?_
  obtain ⟨ka, ca, xa, ya, oa, hacc⟩ := wake_form xs n true c i true
  have hrr : wakeI xs n true c i true = giveI xs n c i := rfl
  rw [hrr] at hacc
  clear hrr
  generalize giveI xs n c i = r at *
  obtain ⟨⟨b0, c0, i0, h0⟩, ac, ys⟩ := r
  dsimp only at hacc
  subst hacc
  intro e w2 hF
  obtain ⟨rfl, hO, hM⟩ := hF
  dsimp only [WkV.v] at hM ⊢
  have HF2 := Lib.hid (HF1.out.call hO hM)
  clear hO hM HF1
  have n0 : w2.cell? ⟨Q, 0, none⟩ = some (.bool false) := HF2.out.rn.cell_ (i := 0) rfl
  have n1 : w2.cell? ⟨Q, 1, none⟩ = some (.int .i64 0) := HF2.out.rn.cell_ (i := 1) rfl
  have n2 : w2.cell? ⟨Q, 2, none⟩ = some (.int .i64 0) := HF2.out.rn.cell_ (i := 2) rfl
  have n3 : w2.cell? ⟨Q, 3, none⟩ = some (.bool false) := HF2.out.rn.cell_ (i := 3) rfl
  have m0 : w2.frozen? ⟨Q, 0, none⟩ = false := HF2.out.rn.frozen 0
  have m1 : w2.frozen? ⟨Q, 1, none⟩ = false := HF2.out.rn.frozen 1
  have m2 : w2.frozen? ⟨Q, 2, none⟩ = false := HF2.out.rn.frozen 2
  have m3 : w2.frozen? ⟨Q, 3, none⟩ = false := HF2.out.rn.frozen 3
  have r0 : w2.cell? ⟨Q + 1, 0, none⟩ = some (.int .i64 0) := HF2.out.ra.cell_ (i := 0) rfl
  have r1 : w2.cell? ⟨Q + 1, 1, none⟩ = some (.int .i64 0) := HF2.out.ra.cell_ (i := 1) rfl
  have r2 : w2.cell? ⟨Q + 1, 2, none⟩ = some (.int .u32 0) := HF2.out.ra.cell_ (i := 2) rfl
  have r3 : w2.cell? ⟨Q + 1, 3, none⟩ = some (.int .u32 0) := HF2.out.ra.cell_ (i := 3) rfl
  have r4 : w2.cell? ⟨Q + 1, 4, none⟩ = some (.int .u32 0) := HF2.out.ra.cell_ (i := 4) rfl
  have q0 : w2.frozen? ⟨Q + 1, 0, none⟩ = false := HF2.out.ra.frozen 0
  have q1 : w2.frozen? ⟨Q + 1, 1, none⟩ = false := HF2.out.ra.frozen 1
  have q2 : w2.frozen? ⟨Q + 1, 2, none⟩ = false := HF2.out.ra.frozen 2
  have q3 : w2.frozen? ⟨Q + 1, 3, none⟩ = false := HF2.out.ra.frozen 3
  have q4 : w2.frozen? ⟨Q + 1, 4, none⟩ = false := HF2.out.ra.frozen 4
  go_wp2
  have HF3 := Lib.hid ((HF2.out.setN (.bool b0) (.int .i64 c0) (.int .i64 i0) (.bool h0)).setA (.int .i64 ka) (.int .i64 ca) (.int .u32 xa) (.int .u32 ya) (.int .u32 oa))
  exact post_two (P := Tryz.prog) Tryz.results50 (by rfl) HF3.out.rn Tryz.underlying27 rfl (by kernel_rfl) (by rfl) HF3.out.ra Tryz.underlying39 rfl (by kernel_rfl) rfl ⟨rfl, HF3.out.only, HF3.out.memo⟩
set_option maxHeartbeats 400000 in
theorem wstep_look (p A : Option Addr) (cp : Nat) (xs : List Int) (n : Int) (c i : Int) (w : World) (h : Memo w p A cp xs) :
    Calls Tryz.prog 50 #[.pointer p, .agg #[.int .i64 n], .agg #[.bool true, .int .i64 c, .int .i64 i, .bool false]] w (Stept p A cp (lookI xs n c i) w) := by
  have e0 := ((Only.refl Nil w).alloc (.cells #[.int .i64 n] 37)).alloc (.cells #[.bool true, .int .i64 c, .int .i64 i, .bool false] 27)
  have HF0 := Lib.hid (KF.start h e0)
  rw [show ((w.alloc (.cells #[.int .i64 n] 37)).alloc (.cells #[.bool true, .int .i64 c, .int .i64 i, .bool false] 27)).heap.size = w.heap.size + 1 + 1 by simp] at HF0
  clear h e0
  have HF1 := Lib.hid (HF0.out.keep ((Only.refl Nil _).alloc (.cells #[.pointer p, .int .i64 n, .bool true, .int .i64 c, .int .i64 i, .bool false] 119)))
  clear HF0
  go_enter Tryz.func50, Tryz.ntmps50
  go_wp2_with fail
  generalize ((((w.alloc (.cells #[.int .i64 n] 37)).alloc (.cells #[.bool true, .int .i64 c, .int .i64 i, .bool false] 27)).alloc (.cells #[.bool false, .int .i64 0, .int .i64 0, .bool false] 27)).alloc (.cells #[.int .i64 0, .int .i64 0, .int .u32 0, .int .u32 0, .int .u32 0] 39)).alloc (.cells #[.pointer p, .int .i64 n, .bool true, .int .i64 c, .int .i64 i, .bool false] 119) = w1 at *
  generalize w.heap.size + 1 + 1 = Q at *
  refine (tdo_look p A cp xs n true c i false _ HF1.out.memo).mono ?_
  obtain ⟨ka, ca, xa, ya, oa, hacc⟩ := wake_form xs n true c i false
  have hrr : wakeI xs n true c i false = lookI xs n c i := rfl
  rw [hrr] at hacc
  clear hrr
  generalize lookI xs n c i = r at *
  obtain ⟨⟨b0, c0, i0, h0⟩, ac, ys⟩ := r
  dsimp only at hacc
  subst hacc
  intro e w2 hF
  obtain ⟨rfl, hO, hM⟩ := hF
  dsimp only [WkV.v] at hM ⊢
  have HF2 := Lib.hid (HF1.out.call hO hM)
  clear hO hM HF1
  have n0 : w2.cell? ⟨Q, 0, none⟩ = some (.bool false) := HF2.out.rn.cell_ (i := 0) rfl
  have n1 : w2.cell? ⟨Q, 1, none⟩ = some (.int .i64 0) := HF2.out.rn.cell_ (i := 1) rfl
  have n2 : w2.cell? ⟨Q, 2, none⟩ = some (.int .i64 0) := HF2.out.rn.cell_ (i := 2) rfl
  have n3 : w2.cell? ⟨Q, 3, none⟩ = some (.bool false) := HF2.out.rn.cell_ (i := 3) rfl
  have m0 : w2.frozen? ⟨Q, 0, none⟩ = false := HF2.out.rn.frozen 0
  have m1 : w2.frozen? ⟨Q, 1, none⟩ = false := HF2.out.rn.frozen 1
  have m2 : w2.frozen? ⟨Q, 2, none⟩ = false := HF2.out.rn.frozen 2
  have m3 : w2.frozen? ⟨Q, 3, none⟩ = false := HF2.out.rn.frozen 3
  have r0 : w2.cell? ⟨Q + 1, 0, none⟩ = some (.int .i64 0) := HF2.out.ra.cell_ (i := 0) rfl
  have r1 : w2.cell? ⟨Q + 1, 1, none⟩ = some (.int .i64 0) := HF2.out.ra.cell_ (i := 1) rfl
  have r2 : w2.cell? ⟨Q + 1, 2, none⟩ = some (.int .u32 0) := HF2.out.ra.cell_ (i := 2) rfl
  have r3 : w2.cell? ⟨Q + 1, 3, none⟩ = some (.int .u32 0) := HF2.out.ra.cell_ (i := 3) rfl
  have r4 : w2.cell? ⟨Q + 1, 4, none⟩ = some (.int .u32 0) := HF2.out.ra.cell_ (i := 4) rfl
  have q0 : w2.frozen? ⟨Q + 1, 0, none⟩ = false := HF2.out.ra.frozen 0
  have q1 : w2.frozen? ⟨Q + 1, 1, none⟩ = false := HF2.out.ra.frozen 1
  have q2 : w2.frozen? ⟨Q + 1, 2, none⟩ = false := HF2.out.ra.frozen 2
  have q3 : w2.frozen? ⟨Q + 1, 3, none⟩ = false := HF2.out.ra.frozen 3
  have q4 : w2.frozen? ⟨Q + 1, 4, none⟩ = false := HF2.out.ra.frozen 4
  go_wp2
  have HF3 := Lib.hid ((HF2.out.setN (.bool b0) (.int .i64 c0) (.int .i64 i0) (.bool h0)).setA (.int .i64 ka) (.int .i64 ca) (.int .u32 xa) (.int .u32 ya) (.int .u32 oa))
  exact post_two (P := Tryz.prog) Tryz.results50 (by rfl) HF3.out.rn Tryz.underlying27 rfl (by kernel_rfl) (by rfl) HF3.out.ra Tryz.underlying39 rfl (by kernel_rfl) rfl ⟨rfl, HF3.out.only, HF3.out.memo⟩
theorem wstep_any (p A : Option Addr) (cp : Nat) (xs : List Int) (n : Int) (on : Bool) (c i : Int) (hit : Bool) (w : World) (h : Memo w p A cp xs) :
    Calls Tryz.prog 50 #[.pointer p, .agg #[.int .i64 n], .agg #[.bool on, .int .i64 c, .int .i64 i, .bool hit]] w (Stept p A cp (wakeI xs n on c i hit) w) := by
  cases on
  · exact wstep_off p A cp xs n c i hit w h
  · cases hit
    · exact wstep_look p A cp xs n c i w h
    · exact wstep_give p A cp xs n c i w h
end Go.Proofs.YtaeninikaalkjaaGreat
set_option linter.unusedVariables false
set_option linter.unusedSimpArgs false
namespace Go.Proofs.YtaeninikaalkjaaGreat
open Go.RowKit
def Woken (w : World) (B : Nat) (p A : Option Addr) (cp : Nat) (nv : Value) (r : LS) (t : WakeR) (e : Ending) (w' : World) : Prop :=
  e = .returned (ofV t.acc).v ∧ Only (TurnB B A) w w' ∧ RunP w' B p A cp nv { r with k := t.next, xs := t.xs }
set_option maxRecDepth 100000 in
set_option maxHeartbeats 1000000 in
theorem wake_next (B : Nat) (p A : Option Addr) (cp : Nat) (nv : Value) (r : LS) (w : World) (h : RunP w B p A cp nv r) :
    Calls Tryz.prog 20 #[.pointer (some ⟨B, 0, none⟩)] w (Woken w B p A cp nv r r.wakeR) := by
  have e0 := (Only.refl Nil w).alloc (.cells #[.int .i64 0, .int .i64 0, .int .u32 0, .int .u32 0, .int .u32 0] 39)
  have HP := Lib.hid (h.keep e0)
  have HR := Lib.hid (Row.new w 39 #[.int .i64 0, .int .i64 0, .int .u32 0, .int .u32 0, .int .u32 0])
  have HO := Lib.hid (e0.mono (T := TurnB B A) (fun _ _ h => h.elim))
  have HBA := Lib.hid (show w.heap.size ≠ B from fun e => by have := h.row.lt; omega)
  have HAA := Lib.hid (show ¬ At A w.heap.size from fun e => by have := h.memo.lt _ (.inr e); omega)
  have HPA := Lib.hid (show ∀ j, At p j ∨ At A j → j ≠ w.heap.size from fun j e => by have := h.memo.lt _ e; omega)
  have HNA := Lib.hid (show ∀ i, nv.ownBlock = some i → i ≠ w.heap.size from fun i hi e => by have := (World.ownsRow.lt h.notes i hi).2; omega)
  clear h e0
  have hacc := ofV_wake r.xs r.n r.k.on r.k.c r.k.i r.k.hit
  rw [show r.wakeR = wakeI r.xs r.n r.k.on r.k.c r.k.i r.k.hit from rfl]
  generalize hst : wakeI r.xs r.n r.k.on r.k.c r.k.i r.k.hit = t at *
  obtain ⟨nx, ac, zs⟩ := t
  have HST := Lib.hid hst
  have HAC := Lib.hid (show ac = (ofV ac).v from hacc)
  clear hst hacc
  have HDE := Lib.hid (show Woken w B p A cp nv r ⟨nx, ac, zs⟩ = fun e w' => e = .returned (ofV ac).v ∧ Only (TurnB B A) w w' ∧ RunP w' B p A cp nv { r with k := nx, xs := zs } from rfl)
  go_enter Tryz.func20, Tryz.ntmps20
  go_upto_region 1 with (fail)
  generalize w.alloc (.cells #[.int .i64 0, .int .i64 0, .int .u32 0, .int .u32 0, .int .u32 0] 39) = w1 at *
  generalize hgg : w.heap.size = ga at *
  have HG := Lib.hid hgg
  clear hgg
  refine wp_region_phase (n := 23) 14 (fun w => w.cell? ⟨B, 0, none⟩ = some (.pointer p) ∧ w.cell? ⟨B, 1, none⟩ = some (.int .i64 r.n) ∧ w.cell? ⟨B, 9, none⟩ = some (.bool r.k.on) ∧ w.cell? ⟨B, 10, none⟩ = some (.int .i64 r.k.c) ∧ w.cell? ⟨B, 11, none⟩ = some (.int .i64 r.k.i) ∧ w.cell? ⟨B, 12, none⟩ = some (.bool r.k.hit)) rfl (by kernel_rfl)
    ⟨HP.out.row.cell_ (i := 0) rfl, HP.out.row.cell_ (i := 1) rfl, HP.out.row.cell_ (i := 9) rfl, HP.out.row.cell_ (i := 10) rfl, HP.out.row.cell_ (i := 11) rfl, HP.out.row.cell_ (i := 12) rfl⟩ (fun hHeld => ?_)
  have HP1 := Lib.hid (HP.out.keep (Only.refl Nil w1).drew)
  have HR1 := Lib.hid HR.out.drew
  have HO1 := Lib.hid HO.out.drew
  clear HP HR HO
  generalize w1.drew = w2 at *
  refine za 0 rfl ?_
  refine za 1 rfl ?_
  refine za 2 rfl ?_
  refine za 3 rfl ?_
  refine zt 4 rfl ?_
  refine za 5 rfl ?_
  refine za 6 rfl ?_
  refine za 7 rfl ?_
  refine zt 8 rfl ?_
  refine za 9 rfl ?_
  refine za 10 rfl ?_
  refine za 11 rfl ?_
  refine za 12 rfl ?_
  refine zt 13 rfl ?_
  refine mpc 14 rfl (by kernel_rfl) (by rfl) (fun K hK => ?_)
  go_simp
  refine (wstep_any p A cp r.xs r.n r.k.on r.k.c r.k.i r.k.hit _ HP1.out.memo).mono ?_
  rw [HST.out]
  intro e w3 hF
  obtain ⟨rfl, hO, hM⟩ := hF
  dsimp only at hM ⊢
  rw [HAC.out]
  clear HAC
  generalize ofV ac = a5 at *
  dsimp only [Acc5.v, WkV.v]
  have HP2 := Lib.hid (HP1.out.call hO hM)
  have HR2 := Lib.hid (HR1.out.only hO HAA.out)
  have HO2 := Lib.hid (HO1.out.trans hO.turned2)
  refine hK.out _ _ (.inl (by kernel_rfl)) ?_
  clear hK K hHeld hO hM HP1 HR1 HO1
  refine za 15 rfl ?_
  refine za 16 rfl ?_
  refine za 17 rfl ?_
  refine za 18 rfl ?_
  refine za 19 rfl ?_
  refine za 20 rfl ?_
  have a9 : w3.cell? ⟨B, 9, none⟩ = some (.bool r.k.on) := HP2.out.row.cell_ (i := 9) rfl
  have a10 : w3.cell? ⟨B, 10, none⟩ = some (.int .i64 r.k.c) := HP2.out.row.cell_ (i := 10) rfl
  have a11 : w3.cell? ⟨B, 11, none⟩ = some (.int .i64 r.k.i) := HP2.out.row.cell_ (i := 11) rfl
  have a12 : w3.cell? ⟨B, 12, none⟩ = some (.bool r.k.hit) := HP2.out.row.cell_ (i := 12) rfl
  have f9 : w3.frozen? ⟨B, 9, none⟩ = false := HP2.out.row.frozen 9
  have f10 : w3.frozen? ⟨B, 10, none⟩ = false := HP2.out.row.frozen 10
  have f11 : w3.frozen? ⟨B, 11, none⟩ = false := HP2.out.row.frozen 11
  have f12 : w3.frozen? ⟨B, 12, none⟩ = false := HP2.out.row.frozen 12
  refine mpc 21 rfl (by kernel_rfl) (by rfl) (fun K hK => ?_)
  go_simp
  have HP3 := Lib.hid (HP2.out.setWake nx)
  have HO3 := Lib.hid (set_wake_only HO2.out (B := B) (.inl rfl) (.bool nx.on) (.int .i64 nx.c) (.int .i64 nx.i) (.bool nx.hit))
  have HR3 := Lib.hid (HR2.out.only (set_wake_only (Only.refl (· = B) w3) rfl (.bool nx.on) (.int .i64 nx.c) (.int .i64 nx.i) (.bool nx.hit)) HBA.out)
  refine hK.out _ _ (.inl (by kernel_rfl)) ?_
  clear hK K a9 a10 a11 a12 f9 f10 f11 f12 HP2 HO2 HR2
  generalize (((w3.setCell ⟨B, 9, none⟩ (.bool nx.on)).setCell ⟨B, 10, none⟩ (.int .i64 nx.c)).setCell ⟨B, 11, none⟩ (.int .i64 nx.i)).setCell ⟨B, 12, none⟩ (.bool nx.hit) = w4 at *
  have a0 : w4.cell? ⟨ga, 0, none⟩ = some (.int .i64 0) := HR3.out.cell_ (i := 0) rfl
  have a1 : w4.cell? ⟨ga, 1, none⟩ = some (.int .i64 0) := HR3.out.cell_ (i := 1) rfl
  have a2 : w4.cell? ⟨ga, 2, none⟩ = some (.int .u32 0) := HR3.out.cell_ (i := 2) rfl
  have a3 : w4.cell? ⟨ga, 3, none⟩ = some (.int .u32 0) := HR3.out.cell_ (i := 3) rfl
  have a4 : w4.cell? ⟨ga, 4, none⟩ = some (.int .u32 0) := HR3.out.cell_ (i := 4) rfl
  have f0 : w4.frozen? ⟨ga, 0, none⟩ = false := HR3.out.frozen 0
  have f1 : w4.frozen? ⟨ga, 1, none⟩ = false := HR3.out.frozen 1
  have f2 : w4.frozen? ⟨ga, 2, none⟩ = false := HR3.out.frozen 2
  have f3 : w4.frozen? ⟨ga, 3, none⟩ = false := HR3.out.frozen 3
  have f4 : w4.frozen? ⟨ga, 4, none⟩ = false := HR3.out.frozen 4
  refine mpc 22 rfl (by kernel_rfl) (by rfl) (fun K hK => ?_)
  go_simp
  have ho5 := five_only (Only.refl (· = ga) w4) (g := ga) (.inr rfl) (.int .i64 a5.k) (.int .i64 a5.c) (.int .u32 a5.x) (.int .u32 a5.y) (.int .u32 a5.o)
  have HP4 := Lib.hid (HP3.out.apart ho5 (Ne.symm HBA.out) HPA.out HNA.out)
  have HO4 := Lib.hid (five_only HO3.out (g := ga) (.inl (by have := HG.out; omega)) (.int .i64 a5.k) (.int .i64 a5.c) (.int .u32 a5.x) (.int .u32 a5.y) (.int .u32 a5.o))
  have HR4 := Lib.hid (five HR3.out (.int .i64 a5.k) (.int .i64 a5.c) (.int .u32 a5.x) (.int .u32 a5.y) (.int .u32 a5.o))
  refine hK.out _ _ (.inl (by kernel_rfl)) ?_
  clear hK K ho5 a0 a1 a2 a3 a4 f0 f1 f2 f3 f4 HP3 HO3 HR3
  generalize (((((w4.setCell ⟨ga, 0, none⟩ (.int .i64 a5.k)).setCell ⟨ga, 1, none⟩ (.int .i64 a5.c)).setCell ⟨ga, 2, none⟩ (.int .u32 a5.x)).setCell ⟨ga, 3, none⟩ (.int .u32 a5.y)).setCell ⟨ga, 4, none⟩ (.int .u32 a5.o)) = w7 at *
  refine wpAnyP_done (by kernel_rfl) ?_ _
  have a0 : w7.cell? ⟨ga, 0, none⟩ = some (.int .i64 a5.k) := HR4.out.cell_ (i := 0) rfl
  have a1 : w7.cell? ⟨ga, 1, none⟩ = some (.int .i64 a5.c) := HR4.out.cell_ (i := 1) rfl
  have a2 : w7.cell? ⟨ga, 2, none⟩ = some (.int .u32 a5.x) := HR4.out.cell_ (i := 2) rfl
  have a3 : w7.cell? ⟨ga, 3, none⟩ = some (.int .u32 a5.y) := HR4.out.cell_ (i := 3) rfl
  have a4 : w7.cell? ⟨ga, 4, none⟩ = some (.int .u32 a5.o) := HR4.out.cell_ (i := 4) rfl
  have f0 : w7.frozen? ⟨ga, 0, none⟩ = false := HR4.out.frozen 0
  have f1 : w7.frozen? ⟨ga, 1, none⟩ = false := HR4.out.frozen 1
  have f2 : w7.frozen? ⟨ga, 2, none⟩ = false := HR4.out.frozen 2
  have f3 : w7.frozen? ⟨ga, 3, none⟩ = false := HR4.out.frozen 3
  have f4 : w7.frozen? ⟨ga, 4, none⟩ = false := HR4.out.frozen 4
  have ho5 := five_only (Only.refl (· = ga) w7) (g := ga) (.inr rfl) (.int .i64 a5.k) (.int .i64 a5.c) (.int .u32 a5.x) (.int .u32 a5.y) (.int .u32 a5.o)
  have HP5 := Lib.hid (HP4.out.apart ho5 (Ne.symm HBA.out) HPA.out HNA.out)
  have HO5 := Lib.hid (five_only HO4.out (g := ga) (.inl (by have := HG.out; omega)) (.int .i64 a5.k) (.int .i64 a5.c) (.int .u32 a5.x) (.int .u32 a5.y) (.int .u32 a5.o))
  have HR5 := Lib.hid (five HR4.out (.int .i64 a5.k) (.int .i64 a5.c) (.int .u32 a5.x) (.int .u32 a5.y) (.int .u32 a5.o))
  clear ho5 HP4 HO4 HR4
  go_wp2
  exact post_row (P := Tryz.prog) Tryz.results20 (by rfl) HR5.out Tryz.underlying39 rfl (by kernel_rfl) rfl (by rw [HDE.out]; exact ⟨rfl, HO5.out, HP5.out⟩)
theorem wake_do (B : Nat) (p A : Option Addr) (cp : Nat) (nv : Value) (r : LS) (w : World) (h : RunP w B p A cp nv r) :
    Calls Tryz.prog 19 #[.pointer (some ⟨B, 0, none⟩), .func (.func 20) #[.pointer (some ⟨B, 0, none⟩)] #[]] w fun e w' => e = .returned (.tuple #[]) ∧ Only (TurnB B A) w w' ∧ RunP w' B p A cp nv { r with k := r.wakeR.next, xs := r.wakeR.xs, acc := ofV r.wakeR.acc } := by
  have HC := Lib.hid (wake_next B p A cp nv r w h)
  clear h
  generalize r.wakeR = t at *
  obtain ⟨nx, ac, zs⟩ := t
  dsimp only
  have HDE := Lib.hid (show Woken w B p A cp nv r ⟨nx, ac, zs⟩ = fun e w' => e = .returned (ofV ac).v ∧ Only (TurnB B A) w w' ∧ RunP w' B p A cp nv { r with k := nx, xs := zs } from rfl)
  generalize ofV ac = a5 at *
  go_enter Tryz.func19, Tryz.ntmps19
  go_wp2_with fail
  refine HC.out.mono ?_
  rw [HDE.out]
  clear HC HDE
  rintro e w1 ⟨rfl, hO, hP⟩
  dsimp only [Acc5.v]
  have HP := Lib.hid hP
  have HO := Lib.hid hO
  clear hP hO
  have a14 : w1.cell? ⟨B, 14, none⟩ = some (.int .i64 r.acc.k) := HP.out.row.cell_ (i := 14) rfl
  have a15 : w1.cell? ⟨B, 15, none⟩ = some (.int .i64 r.acc.c) := HP.out.row.cell_ (i := 15) rfl
  have a16 : w1.cell? ⟨B, 16, none⟩ = some (.int .u32 r.acc.x) := HP.out.row.cell_ (i := 16) rfl
  have a17 : w1.cell? ⟨B, 17, none⟩ = some (.int .u32 r.acc.y) := HP.out.row.cell_ (i := 17) rfl
  have a18 : w1.cell? ⟨B, 18, none⟩ = some (.int .u32 r.acc.o) := HP.out.row.cell_ (i := 18) rfl
  have f14 : w1.frozen? ⟨B, 14, none⟩ = false := HP.out.row.frozen 14
  have f15 : w1.frozen? ⟨B, 15, none⟩ = false := HP.out.row.frozen 15
  have f16 : w1.frozen? ⟨B, 16, none⟩ = false := HP.out.row.frozen 16
  have f17 : w1.frozen? ⟨B, 17, none⟩ = false := HP.out.row.frozen 17
  have f18 : w1.frozen? ⟨B, 18, none⟩ = false := HP.out.row.frozen 18
  go_wp2
  clear a14 a15 a16 a17 a18 f14 f15 f16 f17 f18
  go_returns
  exact ⟨rfl, set_acc_only HO.out (B := B) (.inl rfl) _ _ _ _ _, HP.out.setAcc a5⟩
end Go.Proofs.YtaeninikaalkjaaGreat
