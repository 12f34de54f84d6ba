/- wake.Step. -/
import Derived.Test.YtjdgniconbocnaaWakeTurn
import Derived.Test.YtjdgniconbocnaaWakeDo
import Derived.IntWalk
set_option linter.unusedVariables false
set_option linter.unusedSimpArgs false
namespace Go.Proofs.Ytjdgniconbocnaa
open Go.RowKit

/-- What a step of a wake-up leaves, in one. -/
def Stept (p A : Option Addr) (cp : Nat) (r : WakeR) (w : World) (e : Ending) (w' : World) : Prop := Woke p A cp r.next r.acc r.xs w e w'

theorem cell_there {xs : List Int} {n r i : Int} (h : there xs (cellI n r i) = true) : 1 ≤ n ∧ n ≤ 64 ∧ 0 ≤ i ∧ i < n := by
  by_cases e : 1 ≤ n ∧ n ≤ 64 ∧ 0 ≤ i ∧ i < n
  · exact e
  · rw [show cellI n r i = -1 from if_neg e] at h
    simp [there] at h

theorem doVal_rest {xs : List Int} {k c x y : Int} (h : there xs c = false) : doVal xs k c x y = accOf 0 0 0 0 0 := by simp [doVal, doOk, h]
theorem st_rest {xs : List Int} {c u : Int} (h : there xs c = false) : st xs c u = xs := by simp [st, h]

theorem tdo_give (p A : Option Addr) (cp : Nat) (xs : List Int) (n : Int) (on : Bool) (c i : Int) (hit : Bool) (w : World) (h : Memo w p A cp xs) :
    Calls Try.prog 18 #[.agg #[.pointer p, .int .i64 n, .bool on, .int .i64 c, .int .i64 i, .bool hit], .func (.func 19) #[.agg #[.pointer p, .int .i64 n, .bool on, .int .i64 c, .int .i64 i, .bool hit]] #[]] w (Stept p A cp (giveI xs n c i) w) := by
  have hg := fun j hj w h => tgive_any p A cp xs n on c i hit j hj w h
  unfold giveI
  cases ht : there xs (pc n i)
  · rw [if_neg (by simp)]
    refine tdo_not_g p A cp xs xs n on c i hit (IntKind.i64.wrap (i + 1)) false 0 0 0 0 0 w h (fun w h => ?_)
    have q := hg _ rfl w h
    rw [ht, doVal_rest ht, st_rest ht] at q
    exact q
  · rw [if_pos rfl]
    obtain ⟨h1, h2, h3, h4⟩ := cell_there ht
    have hj : IntKind.i64.wrap (i + 1) = i + 1 := IntWalk.i64_in _ (by omega)
    have q := hg _ hj
    obtain ⟨k', c', x', y', hv⟩ := doVal_form xs 2 (pc n i) 1 0
    rw [ht, hv] at q
    show Woke p A cp (nextI n c i) (doVal xs 2 (pc n i) 1 0) (st xs (pc n i) 1) w |> Calls _ _ _ w
    rw [hv]
    unfold nextI
    by_cases e : i + 1 = n
    · rw [if_pos e]
      subst e
      exact tdo_end_g p A cp xs _ _ on c i hit _ _ _ _ _ w h q
    · rw [if_neg e]
      exact tdo_on_g p A cp xs _ _ on c i hit _ _ _ _ _ _ _ w h (by simp [e]) q

theorem tdo_look (p A : Option Addr) (cp : Nat) (xs : List Int) (n : Int) (on : Bool) (c i : Int) (hit : Bool) (w : World) (h : Memo w p A cp xs) :
    Calls Try.prog 18 #[.agg #[.pointer p, .int .i64 n, .bool on, .int .i64 c, .int .i64 i, .bool hit], .func (.func 20) #[.agg #[.pointer p, .int .i64 n, .bool on, .int .i64 c, .int .i64 i, .bool hit]] #[]] w (Stept p A cp (lookI xs n c i) w) := by
  unfold lookI
  cases ht : there xs (wc n i)
  · rw [if_neg (by simp)]
    by_cases hq : wordAt xs (wc n i) = (c + 1) % 4294967296
    · refine tdo_not_l p A cp xs xs n on c i hit i true 0 0 0 0 0 w h (fun w h => ?_)
      have q := tlook_yes p A cp xs n on c i hit w h hq
      rw [ht, doVal_rest ht] at q
      exact q
    · refine tdo_not_l p A cp xs xs n on c i hit (IntKind.i64.wrap (i + 1)) false 0 0 0 0 0 w h (fun w h => ?_)
      have q := tlook_no p A cp xs n on c i hit _ rfl w h hq
      rw [ht, doVal_rest ht] at q
      exact q
  · rw [if_pos rfl]
    obtain ⟨h1, h2, h3, h4⟩ := cell_there ht
    have hj : IntKind.i64.wrap (i + 1) = i + 1 := IntWalk.i64_in _ (by omega)
    obtain ⟨k', c', x', y', hv⟩ := doVal_form xs 1 (wc n i) 0 0
    by_cases hq : wordAt xs (wc n i) = (c + 1) % 4294967296
    · rw [if_pos hq]
      show Woke p A cp ⟨true, c, i, true⟩ (doVal xs 1 (wc n i) 0 0) xs w |> Calls _ _ _ w
      rw [hv]
      refine tdo_on_l p A cp xs _ _ on c i hit _ _ _ _ _ _ _ w h (by simp) (fun w h => ?_)
      have q := tlook_yes p A cp xs n on c i hit w h hq
      rw [ht, hv] at q
      exact q
    · rw [if_neg hq]
      have q := fun w h => tlook_no p A cp xs n on c i hit _ hj w h hq
      rw [ht, hv] at q
      show Woke p A cp (nextI n c i) (doVal xs 1 (wc n i) 0 0) xs w |> Calls _ _ _ w
      rw [hv]
      unfold nextI
      by_cases e : i + 1 = n
      · rw [if_pos e]
        subst e
        exact tdo_end_l p A cp xs _ _ on c i hit _ _ _ _ _ w h q
      · rw [if_neg e]
        exact tdo_on_l p A cp xs _ _ on c i hit _ _ _ _ _ _ _ w h (by simp [e]) q

/-- What a step tells, field by field. -/
theorem wake_form (xs : List Int) (n : Int) (on : Bool) (c i : Int) (hit : Bool) : ∃ ka ca xa ya oa : Int, (wakeI xs n on c i hit).acc = .agg #[.int .i64 ka, .int .i64 ca, .int .u32 xa, .int .u32 ya, .int .u32 oa] := by
  have hv := fun k c x y => doVal_form xs k c x y
  unfold wakeI giveI lookI restI
  repeat' split
  all_goals first | exact ⟨0, 0, 0, 0, 0, rfl⟩ | (obtain ⟨k', c', x', y', e⟩ := hv 2 (pc n i) 1 0; exact ⟨_, _, _, _, _, e⟩) | (obtain ⟨k', c', x', y', e⟩ := hv 1 (wc n i) 0 0; exact ⟨_, _, _, _, _, e⟩)

/-- A step's own blocks: the results. -/
structure KF (w0 : World) (p A : Option Addr) (cp : Nat) (Q : Nat) (nv acs : Array Value) (W : World) (xs : List Int) : Prop where
  only : Only (At A) w0 W
  memo : Memo W p A cp xs
  rn : Row W Q 24 nv
  ra : Row W (Q + 1) 33 acs
  lt : ∀ j, At p j ∨ At A j → j < Q
  hw : w0.heap.size ≤ Q

section
variable {w0 W W' : World} {p A : Option Addr} {cp Q : Nat} {nv acs : Array Value} {xs ys : List Int}
theorem KF.call (h : KF w0 p A cp Q nv acs W xs) (ho : Only (At A) W W') (hm : Memo W' p A cp ys) : KF w0 p A cp Q nv acs W' ys :=
  ⟨h.only.trans ho, hm, h.rn.only ho (fun e => by have := h.lt _ (.inr e); omega), h.ra.only ho (fun e => by have := h.lt _ (.inr e); omega), h.lt, h.hw⟩
theorem KF.keep (h : KF w0 p A cp Q nv acs W xs) (ho : Only Nil W W') : KF w0 p A cp Q nv acs W' xs := h.call (ho.mono (fun _ _ h => h.elim)) (h.memo.keep ho)
theorem KF.setN {a0 a1 a2 a3 : Value} (h : KF w0 p A cp Q #[a0, a1, a2, a3] acs W xs) (v0 v1 v2 v3 : Value) :
    KF w0 p A cp Q #[v0, v1, v2, v3] acs ((((W.setCell ⟨Q, 0, none⟩ v0).setCell ⟨Q, 1, none⟩ v1).setCell ⟨Q, 2, none⟩ v2).setCell ⟨Q, 3, none⟩ v3) xs := by
  have ho := four_only (Only.refl (· = Q) W) (g := Q) (.inr rfl) v0 v1 v2 v3
  exact ⟨four_only h.only (.inl h.hw) _ _ _ _, h.memo.far ho (fun j hj e => by have := h.lt j hj; omega), four h.rn _ _ _ _, h.ra.only ho (fun e => by omega), h.lt, h.hw⟩
theorem KF.setA {a0 a1 a2 a3 a4 : Value} (h : KF w0 p A cp Q nv #[a0, a1, a2, a3, a4] W xs) (v0 v1 v2 v3 v4 : Value) :
    KF w0 p A cp Q nv #[v0, v1, v2, v3, v4] (((((W.setCell ⟨Q + 1, 0, none⟩ v0).setCell ⟨Q + 1, 1, none⟩ v1).setCell ⟨Q + 1, 2, none⟩ v2).setCell ⟨Q + 1, 3, none⟩ v3).setCell ⟨Q + 1, 4, none⟩ v4) xs := by
  have ho := five_only (Only.refl (· = Q + 1) W) (g := Q + 1) (.inr rfl) v0 v1 v2 v3 v4
  exact ⟨five_only h.only (.inl (by have := h.hw; omega)) _ _ _ _ _, h.memo.far ho (fun j hj e => by have := h.lt j hj; omega), h.rn.only ho (fun e => by omega), five h.ra _ _ _ _ _, h.lt, h.hw⟩
theorem KF.start {w W : World} {p A : Option Addr} {cp : Nat} {xs : List Int} (h : Memo w p A cp xs) (hO : Only Nil w W) :
    KF w p A cp W.heap.size #[.bool false, .int .i64 0, .int .i64 0, .bool false] #[.int .i64 0, .int .i64 0, .int .u32 0, .int .u32 0, .int .u32 0] ((W.alloc (.cells #[.bool false, .int .i64 0, .int .i64 0, .bool false] 24)).alloc (.cells #[.int .i64 0, .int .i64 0, .int .u32 0, .int .u32 0, .int .u32 0] 33)) xs := by
  have e0 := (hO.alloc (.cells #[.bool false, .int .i64 0, .int .i64 0, .bool false] 24)).alloc (.cells #[.int .i64 0, .int .i64 0, .int .u32 0, .int .u32 0, .int .u32 0] 33)
  exact ⟨e0.mono (fun _ _ h => h.elim), h.keep e0, (Row.new W _ _).alloc _, Row.new2 W _ _ _, fun j hj => Nat.lt_of_lt_of_le (h.lt j hj) hO.size, hO.size⟩
end

theorem wstep_off (p A : Option Addr) (cp : Nat) (xs : List Int) (n : Int) (c i : Int) (hit : Bool) (w : World) (h : Memo w p A cp xs) :
    Calls Try.prog 8 #[.pointer p, .agg #[.int .i64 n], .agg #[.bool false, .int .i64 c, .int .i64 i, .bool hit]] w (Stept p A cp (restI xs) w) := by
  have e0 := ((Only.refl Nil w).alloc (.cells #[.int .i64 n] 37)).alloc (.cells #[.bool false, .int .i64 c, .int .i64 i, .bool hit] 24)
  have HF0 := Lib.hid (KF.start h e0)
  rw [show ((w.alloc (.cells #[.int .i64 n] 37)).alloc (.cells #[.bool false, .int .i64 c, .int .i64 i, .bool hit] 24)).heap.size = w.heap.size + 1 + 1 by simp] at HF0
  clear h e0
  go_enter Try.func8, Try.ntmps8
  go_wp2
  exact post_two (P := Try.prog) Try.results8 (by rfl) HF0.out.rn Try.underlying24 rfl (by kernel_rfl) (by rfl) HF0.out.ra Try.underlying33 rfl (by kernel_rfl) rfl ⟨rfl, HF0.out.only, HF0.out.memo⟩

set_option maxHeartbeats 400000 in
theorem wstep_give (p A : Option Addr) (cp : Nat) (xs : List Int) (n : Int) (c i : Int) (w : World) (h : Memo w p A cp xs) :
    Calls Try.prog 8 #[.pointer p, .agg #[.int .i64 n], .agg #[.bool true, .int .i64 c, .int .i64 i, .bool true]] w (Stept p A cp (giveI xs n c i) w) := by
  have e0 := ((Only.refl Nil w).alloc (.cells #[.int .i64 n] 37)).alloc (.cells #[.bool true, .int .i64 c, .int .i64 i, .bool true] 24)
  have HF0 := Lib.hid (KF.start h e0)
  rw [show ((w.alloc (.cells #[.int .i64 n] 37)).alloc (.cells #[.bool true, .int .i64 c, .int .i64 i, .bool true] 24)).heap.size = w.heap.size + 1 + 1 by simp] at HF0
  clear h e0
  have HF1 := Lib.hid (HF0.out.keep ((Only.refl Nil _).alloc (.cells #[.pointer p, .int .i64 n, .bool true, .int .i64 c, .int .i64 i, .bool true] 51)))
  clear HF0
  go_enter Try.func8, Try.ntmps8
  go_wp2_with fail
  generalize ((((w.alloc (.cells #[.int .i64 n] 37)).alloc (.cells #[.bool true, .int .i64 c, .int .i64 i, .bool true] 24)).alloc (.cells #[.bool false, .int .i64 0, .int .i64 0, .bool false] 24)).alloc (.cells #[.int .i64 0, .int .i64 0, .int .u32 0, .int .u32 0, .int .u32 0] 33)).alloc (.cells #[.pointer p, .int .i64 n, .bool true, .int .i64 c, .int .i64 i, .bool true] 51) = w1 at *
  generalize w.heap.size + 1 + 1 = Q at *
  refine (tdo_give p A cp xs n true c i true _ HF1.out.memo).mono ?_
  obtain ⟨ka, ca, xa, ya, oa, hacc⟩ := wake_form xs n true c i true
  have hrr : wakeI xs n true c i true = giveI xs n c i := rfl
  rw [hrr] at hacc
  clear hrr
  generalize giveI xs n c i = r at *
  obtain ⟨⟨b0, c0, i0, h0⟩, ac, ys⟩ := r
  dsimp only at hacc
  subst hacc
  intro e w2 hF
  obtain ⟨rfl, hO, hM⟩ := hF
  dsimp only [WkV.v] at hM ⊢
  have HF2 := Lib.hid (HF1.out.call hO hM)
  clear hO hM HF1
  have n0 : w2.cell? ⟨Q, 0, none⟩ = some (.bool false) := HF2.out.rn.cell_ (i := 0) rfl
  have n1 : w2.cell? ⟨Q, 1, none⟩ = some (.int .i64 0) := HF2.out.rn.cell_ (i := 1) rfl
  have n2 : w2.cell? ⟨Q, 2, none⟩ = some (.int .i64 0) := HF2.out.rn.cell_ (i := 2) rfl
  have n3 : w2.cell? ⟨Q, 3, none⟩ = some (.bool false) := HF2.out.rn.cell_ (i := 3) rfl
  have m0 : w2.frozen? ⟨Q, 0, none⟩ = false := HF2.out.rn.frozen 0
  have m1 : w2.frozen? ⟨Q, 1, none⟩ = false := HF2.out.rn.frozen 1
  have m2 : w2.frozen? ⟨Q, 2, none⟩ = false := HF2.out.rn.frozen 2
  have m3 : w2.frozen? ⟨Q, 3, none⟩ = false := HF2.out.rn.frozen 3
  have r0 : w2.cell? ⟨Q + 1, 0, none⟩ = some (.int .i64 0) := HF2.out.ra.cell_ (i := 0) rfl
  have r1 : w2.cell? ⟨Q + 1, 1, none⟩ = some (.int .i64 0) := HF2.out.ra.cell_ (i := 1) rfl
  have r2 : w2.cell? ⟨Q + 1, 2, none⟩ = some (.int .u32 0) := HF2.out.ra.cell_ (i := 2) rfl
  have r3 : w2.cell? ⟨Q + 1, 3, none⟩ = some (.int .u32 0) := HF2.out.ra.cell_ (i := 3) rfl
  have r4 : w2.cell? ⟨Q + 1, 4, none⟩ = some (.int .u32 0) := HF2.out.ra.cell_ (i := 4) rfl
  have q0 : w2.frozen? ⟨Q + 1, 0, none⟩ = false := HF2.out.ra.frozen 0
  have q1 : w2.frozen? ⟨Q + 1, 1, none⟩ = false := HF2.out.ra.frozen 1
  have q2 : w2.frozen? ⟨Q + 1, 2, none⟩ = false := HF2.out.ra.frozen 2
  have q3 : w2.frozen? ⟨Q + 1, 3, none⟩ = false := HF2.out.ra.frozen 3
  have q4 : w2.frozen? ⟨Q + 1, 4, none⟩ = false := HF2.out.ra.frozen 4
  go_wp2
  have HF3 := Lib.hid ((HF2.out.setN (.bool b0) (.int .i64 c0) (.int .i64 i0) (.bool h0)).setA (.int .i64 ka) (.int .i64 ca) (.int .u32 xa) (.int .u32 ya) (.int .u32 oa))
  exact post_two (P := Try.prog) Try.results8 (by rfl) HF3.out.rn Try.underlying24 rfl (by kernel_rfl) (by rfl) HF3.out.ra Try.underlying33 rfl (by kernel_rfl) rfl ⟨rfl, HF3.out.only, HF3.out.memo⟩

set_option maxHeartbeats 400000 in
theorem wstep_look (p A : Option Addr) (cp : Nat) (xs : List Int) (n : Int) (c i : Int) (w : World) (h : Memo w p A cp xs) :
    Calls Try.prog 8 #[.pointer p, .agg #[.int .i64 n], .agg #[.bool true, .int .i64 c, .int .i64 i, .bool false]] w (Stept p A cp (lookI xs n c i) w) := by
  have e0 := ((Only.refl Nil w).alloc (.cells #[.int .i64 n] 37)).alloc (.cells #[.bool true, .int .i64 c, .int .i64 i, .bool false] 24)
  have HF0 := Lib.hid (KF.start h e0)
  rw [show ((w.alloc (.cells #[.int .i64 n] 37)).alloc (.cells #[.bool true, .int .i64 c, .int .i64 i, .bool false] 24)).heap.size = w.heap.size + 1 + 1 by simp] at HF0
  clear h e0
  have HF1 := Lib.hid (HF0.out.keep ((Only.refl Nil _).alloc (.cells #[.pointer p, .int .i64 n, .bool true, .int .i64 c, .int .i64 i, .bool false] 51)))
  clear HF0
  go_enter Try.func8, Try.ntmps8
  go_wp2_with fail
  generalize ((((w.alloc (.cells #[.int .i64 n] 37)).alloc (.cells #[.bool true, .int .i64 c, .int .i64 i, .bool false] 24)).alloc (.cells #[.bool false, .int .i64 0, .int .i64 0, .bool false] 24)).alloc (.cells #[.int .i64 0, .int .i64 0, .int .u32 0, .int .u32 0, .int .u32 0] 33)).alloc (.cells #[.pointer p, .int .i64 n, .bool true, .int .i64 c, .int .i64 i, .bool false] 51) = w1 at *
  generalize w.heap.size + 1 + 1 = Q at *
  refine (tdo_look p A cp xs n true c i false _ HF1.out.memo).mono ?_
  obtain ⟨ka, ca, xa, ya, oa, hacc⟩ := wake_form xs n true c i false
  have hrr : wakeI xs n true c i false = lookI xs n c i := rfl
  rw [hrr] at hacc
  clear hrr
  generalize lookI xs n c i = r at *
  obtain ⟨⟨b0, c0, i0, h0⟩, ac, ys⟩ := r
  dsimp only at hacc
  subst hacc
  intro e w2 hF
  obtain ⟨rfl, hO, hM⟩ := hF
  dsimp only [WkV.v] at hM ⊢
  have HF2 := Lib.hid (HF1.out.call hO hM)
  clear hO hM HF1
  have n0 : w2.cell? ⟨Q, 0, none⟩ = some (.bool false) := HF2.out.rn.cell_ (i := 0) rfl
  have n1 : w2.cell? ⟨Q, 1, none⟩ = some (.int .i64 0) := HF2.out.rn.cell_ (i := 1) rfl
  have n2 : w2.cell? ⟨Q, 2, none⟩ = some (.int .i64 0) := HF2.out.rn.cell_ (i := 2) rfl
  have n3 : w2.cell? ⟨Q, 3, none⟩ = some (.bool false) := HF2.out.rn.cell_ (i := 3) rfl
  have m0 : w2.frozen? ⟨Q, 0, none⟩ = false := HF2.out.rn.frozen 0
  have m1 : w2.frozen? ⟨Q, 1, none⟩ = false := HF2.out.rn.frozen 1
  have m2 : w2.frozen? ⟨Q, 2, none⟩ = false := HF2.out.rn.frozen 2
  have m3 : w2.frozen? ⟨Q, 3, none⟩ = false := HF2.out.rn.frozen 3
  have r0 : w2.cell? ⟨Q + 1, 0, none⟩ = some (.int .i64 0) := HF2.out.ra.cell_ (i := 0) rfl
  have r1 : w2.cell? ⟨Q + 1, 1, none⟩ = some (.int .i64 0) := HF2.out.ra.cell_ (i := 1) rfl
  have r2 : w2.cell? ⟨Q + 1, 2, none⟩ = some (.int .u32 0) := HF2.out.ra.cell_ (i := 2) rfl
  have r3 : w2.cell? ⟨Q + 1, 3, none⟩ = some (.int .u32 0) := HF2.out.ra.cell_ (i := 3) rfl
  have r4 : w2.cell? ⟨Q + 1, 4, none⟩ = some (.int .u32 0) := HF2.out.ra.cell_ (i := 4) rfl
  have q0 : w2.frozen? ⟨Q + 1, 0, none⟩ = false := HF2.out.ra.frozen 0
  have q1 : w2.frozen? ⟨Q + 1, 1, none⟩ = false := HF2.out.ra.frozen 1
  have q2 : w2.frozen? ⟨Q + 1, 2, none⟩ = false := HF2.out.ra.frozen 2
  have q3 : w2.frozen? ⟨Q + 1, 3, none⟩ = false := HF2.out.ra.frozen 3
  have q4 : w2.frozen? ⟨Q + 1, 4, none⟩ = false := HF2.out.ra.frozen 4
  go_wp2
  have HF3 := Lib.hid ((HF2.out.setN (.bool b0) (.int .i64 c0) (.int .i64 i0) (.bool h0)).setA (.int .i64 ka) (.int .i64 ca) (.int .u32 xa) (.int .u32 ya) (.int .u32 oa))
  exact post_two (P := Try.prog) Try.results8 (by rfl) HF3.out.rn Try.underlying24 rfl (by kernel_rfl) (by rfl) HF3.out.ra Try.underlying33 rfl (by kernel_rfl) rfl ⟨rfl, HF3.out.only, HF3.out.memo⟩

/-- Any step. -/
theorem wstep_any (p A : Option Addr) (cp : Nat) (xs : List Int) (n : Int) (on : Bool) (c i : Int) (hit : Bool) (w : World) (h : Memo w p A cp xs) :
    Calls Try.prog 8 #[.pointer p, .agg #[.int .i64 n], .agg #[.bool on, .int .i64 c, .int .i64 i, .bool hit]] w (Stept p A cp (wakeI xs n on c i hit) w) := by
  cases on
  · exact wstep_off p A cp xs n c i hit w h
  · cases hit
    · exact wstep_look p A cp xs n c i w h
    · exact wstep_give p A cp xs n c i w h
end Go.Proofs.Ytjdgniconbocnaa
