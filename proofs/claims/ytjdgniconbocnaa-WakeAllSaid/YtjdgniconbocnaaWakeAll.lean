/- WakeAll: the walk. -/
import Derived.Test.YtjdgniconbocnaaWakeAw
import Derived.Test.YtjdgniconbocnaaWakeW
import Derived.Test.YtjdgniconbocnaaRefC
import Derived.Test.YtjdgniconbocnaaAll
import Derived.Test.YtjdgniconbocnaaTake
import Derived.Deep.Cut
set_option linter.unusedVariables false
set_option linter.unusedSimpArgs false
namespace Go.Proofs.Ytjdgniconbocnaa
open Go.RowKit

theorem wall_away (A : Option Addr) (l cap : Nat) (c mode : Int) (w : World) (h : l < 1 ∨ 64 < l) :
    Calls Try.prog 4 #[.slice A l cap, .int .u8 c, .int .i64 mode] w fun e w' => e = .returned (.bool true) ∧ Only Nil w w' := by
  have h' : (l : Int) < 1 ∨ (¬ (l : Int) < 1 ∧ 64 < (l : Int)) := by omega
  clear h
  rcases h' with h | ⟨h, h2⟩
  all_goals
    go_enter Try.func4, Try.ntmps4
    go_wp2_with fail
    refine (awake_any _).mono ?_
    rintro e w1 ⟨rfl, hO⟩
    have HO1 := Lib.hid hO
    clear hO
    go_wp2
    go_ret
    exact ⟨rfl, HO1.out⟩

/-- The law's blocks: its list, its memory, its map, its wake-up. -/
structure LF (w0 : World) (g M K : Nat) (n : Int) (p A : Option Addr) (cp : Nat) (kv : Array Value) (xs L : List Int) (W : World) : Prop where
  only : Only Nil w0 W
  memo : Memo W p A cp xs
  rl : RowL W g L
  rm : Row W M 37 #[.int .i64 n]
  rk : Row W K 24 kv
  lt : ∀ j, At p j ∨ At A j → g < j ∧ j < M
  hg : w0.heap.size ≤ g
  hgm : g < M
  hmk : M < K

section
variable {w0 W W' : World} {g M K : Nat} {n : Int} {p A : Option Addr} {cp : Nat} {kv : Array Value} {xs ys L : List Int}
theorem LF.call (h : LF w0 g M K n p A cp kv xs L W) (ho : Only (At A) W W') (hm : Memo W' p A cp ys) : LF w0 g M K n p A cp kv ys L W' :=
  ⟨h.only.step ho (fun i hi e => by have := (h.lt i (.inr e)).1; have := h.hg; omega), hm, h.rl.only ho (fun e => by have := (h.lt _ (.inr e)).1; omega), h.rm.only ho (fun e => by have := (h.lt _ (.inr e)).2; omega), h.rk.only ho (fun e => by have := (h.lt _ (.inr e)).2; have := h.hmk; omega), h.lt, h.hg, h.hgm, h.hmk⟩
theorem LF.keep (h : LF w0 g M K n p A cp kv xs L W) (ho : Only Nil W W') : LF w0 g M K n p A cp kv xs L W' := h.call (ho.mono (fun _ _ h => h.elim)) (h.memo.keep ho)
theorem LF.setK {a0 a1 a2 a3 : Value} (h : LF w0 g M K n p A cp #[a0, a1, a2, a3] xs L W) (v0 v1 v2 v3 : Value) :
    LF w0 g M K n p A cp #[v0, v1, v2, v3] xs L ((((W.setCell ⟨K, 0, none⟩ v0).setCell ⟨K, 1, none⟩ v1).setCell ⟨K, 2, none⟩ v2).setCell ⟨K, 3, none⟩ v3) := by
  have ho := four_only (Only.refl (· = K) W) (g := K) (.inr rfl) v0 v1 v2 v3
  have h1 := h.hmk
  have h2 := h.hgm
  have h3 := h.hg
  exact ⟨four_only h.only (.inl (by omega)) _ _ _ _, h.memo.far ho (fun j hj e => by have := h.lt j hj; omega), h.rl.only ho (fun e => by omega), h.rm.only ho (fun e => by omega), four h.rk _ _ _ _, h.lt, h.hg, h.hgm, h.hmk⟩
theorem LF.setL (h : LF w0 g M K n p A cp kv xs L W) (q : Nat) (v : Int) : LF w0 g M K n p A cp kv xs (L.set q v) (W.setCell ⟨g, q, none⟩ (.int .u32 v)) := by
  have ho := (Only.refl (· = g) W).setCell (p := ⟨g, q, none⟩) (.inr rfl) (.int .u32 v)
  have h1 := h.hmk
  have h2 := h.hgm
  exact ⟨h.only.setCell (.inl h.hg) _, h.memo.far ho (fun j hj e => by have := h.lt j hj; omega), h.rl.set q v, h.rm.only ho (fun e => by omega), h.rk.only ho (fun e => by omega), h.lt, h.hg, h.hgm, h.hmk⟩
end

/-- A watch, at a later world. -/
def Lies4 (w : World) (b1 o1 l : Nat) (ws : List Int) : Prop := b1 < w.heap.size ∧ ∀ i, i < l → w.cell? ⟨b1, o1 + i, none⟩ = some (.int .u32 (ws.getD i 0))
theorem Lies4.at {w w' : World} {b1 o1 l : Nat} {ws : List Int} (h : Lies4 w b1 o1 l ws) (ho : Only Nil w w') {i : Nat} (hi : i < l) : w'.cell? ⟨b1, o1 + i, none⟩ = some (.int .u32 (ws.getD i 0)) :=
  (ho.cell h.1 id).trans (h.2 i hi)

set_option maxHeartbeats 1000000 in
theorem wall_main (l cap : Nat) (ws : List Int) (c : Int) (w : World) (A : Option Addr) (hr : IsRow .u32 w A l cap ws) (h1 : 1 ≤ l) (h2 : l ≤ 64) (hc : 0 ≤ c ∧ c < 256) :
    Calls Try.prog 4 #[.slice A l cap, .int .u8 c, .int .i64 2] w fun e w' => e = .returned (.bool true) ∧ Only Nil w w' := by
  obtain ⟨b1, o1, rfl, hb1, hcell⟩ := hr.ints (by rw [hr.len_]; omega)
  have HWS : Hid (Lies4 w b1 o1 l ws) := Lib.hid ⟨hb1, fun i hi => hcell i (by rw [hr.len_]; exact hi)⟩
  have HLN := Lib.hid hr.len_
  clear hcell hb1 hr
  have hL1 : (1 : Int) ≤ l := by omega
  have hL2 : (l : Int) ≤ 64 := by omega
  obtain ⟨S, hS⟩ : ∃ S : Nat, S = 8 + 4 * l := ⟨_, rfl⟩
  have hSz : sizeI l = S := by unfold sizeI; rw [if_pos ⟨hL1, hL2⟩]; omega
  have HS := Lib.hid hS
  have hS2 : (S : Int) ≤ 1024 := by omega
  have hneq : ((S : Int) != 8 + 4 * (l : Int)) = false := by rw [hS]; simp
  clear hS
  go_enter Try.func4, Try.ntmps4
  go_wp2_with fail
  refine (first4_row l S _ ⟨hL1, hL2⟩ hSz).mono ?_
  intro e w1 hF
  obtain ⟨g, rfl, hg, hR, hO⟩ := hF
  have HO := Lib.hid hO
  have HG := Lib.hid hg
  have HR : Hid (RowL w1 g (wl ws l 0)) := Lib.hid (by rw [HS.out] at hR; exact hR)
  clear hO hR hg hSz
  go_wp2_with fail
  clear hneq
  go_loopw [10] (fun iv wr => ∃ k : Nat, k ≤ l ∧ iv = .int .i64 k ∧ RowL wr g (wl ws l k) ∧ Only Nil w wr) (fun iv _ => l - (intOf iv).toNat)
  case atStart => exact ⟨0, Nat.zero_le _, rfl, HR.out, HO.out⟩
  case round =>
    obtain ⟨k, hk, rfl, hRL, hOn⟩ := hrel
    have HRL := Lib.hid hRL
    have HON := Lib.hid hOn
    clear hRL hOn HR HO
    by_cases hlt : k < l
    · have hcell : cellI l 2 k = ((8 + 2 * l + k : Nat) : Int) := by unfold cellI; rw [if_pos (by omega)]; push_cast; rfl
      obtain ⟨q, hq⟩ : ∃ q : Nat, q = 8 + 2 * l + k := ⟨_, rfl⟩
      rw [← hq] at hcell
      have hqS : q < S := by have := HS.out; omega
      have HQ := Lib.hid hq
      have HCELL := Lib.hid hcell
      have x0 := HWS.out.at HON.out hlt
      generalize hx : ws.getD k 0 = x at *
      have HX := Lib.hid hx
      clear hq hcell hx
      go_wp2_with fail
      refine wp_region_held_drew (S := fun w' => w'.cell? ⟨b1, o1 + k, none⟩ = some (.int .u32 x)) (by kernel_rfl) x0 (fun hHeld => ?_)
      have HRL2 := Lib.hid HRL.out.drew
      have HON2 := Lib.hid HON.out.drew
      clear x0 HRL HON
      generalize wr.drew = w2 at *
      refine take_0 (.slice (some ⟨g, 0, none⟩) S S) (by kernel_rfl) (by kernel_rfl) (by kernel_rfl) (fun _ _ _ h => h) (by rfl) (fun w hSw => ?_) (by assumption) ?_
      · (try dsimp only at hSw)
        go_split_ands
        go_simp
      (try simp only [Act.put, List.setIfInBounds_toArray, List.set_cons_zero, List.set_cons_succ])
      refine take_1 (.int .i64 l) (by kernel_rfl) (by kernel_rfl) (by kernel_rfl) (fun _ _ _ h => h) (by rfl) (fun w hSw => ?_) (by assumption) ?_
      · (try dsimp only at hSw)
        go_split_ands
        go_simp
      (try simp only [Act.put, List.setIfInBounds_toArray, List.set_cons_zero, List.set_cons_succ])
      refine take_2 (.int .i64 k) (by kernel_rfl) (by kernel_rfl) (by kernel_rfl) (fun _ _ _ h => h) (by rfl) (fun w hSw => ?_) (by assumption) ?_
      · (try dsimp only at hSw)
        go_split_ands
        go_simp
      (try simp only [Act.put, List.setIfInBounds_toArray, List.set_cons_zero, List.set_cons_succ])
      refine take_4 (.slice (some ⟨b1, o1, none⟩) l cap) (by kernel_rfl) (by kernel_rfl) (by kernel_rfl) (fun _ _ _ h => h) (by rfl) (fun w hSw => ?_) (by assumption) ?_
      · (try dsimp only at hSw)
        go_split_ands
        go_simp
      (try simp only [Act.put, List.setIfInBounds_toArray, List.set_cons_zero, List.set_cons_succ])
      refine take_5 (.int .i64 k) (by kernel_rfl) (by kernel_rfl) (by kernel_rfl) (fun _ _ _ h => h) (by rfl) (fun w hSw => ?_) (by assumption) ?_
      · (try dsimp only at hSw)
        go_split_ands
        go_simp
      (try simp only [Act.put, List.setIfInBounds_toArray, List.set_cons_zero, List.set_cons_succ])
      refine take_6 (.pointer (some ⟨b1, o1 + k, none⟩)) (by kernel_rfl) (by kernel_rfl) (by kernel_rfl) (fun _ _ _ h => h) (by rfl) (fun w hSw => ?_) (by assumption) ?_
      · (try dsimp only at hSw)
        go_split_ands
        go_simp
      (try simp only [Act.put, List.setIfInBounds_toArray, List.set_cons_zero, List.set_cons_succ])
      refine take_7 (.int .u32 x) (by kernel_rfl) (by kernel_rfl) (by kernel_rfl) (fun _ _ _ h => h) (by rfl) (fun w hSw => ?_) (by assumption) ?_
      · (try dsimp only at hSw)
        go_split_ands
        go_simp
      (try simp only [Act.put, List.setIfInBounds_toArray, List.set_cons_zero, List.set_cons_succ])
      refine call_3 (by kernel_rfl) (by rfl) (fun K hK => ?_)
      go_simp
      refine (refCell_any l 2 k _ (by omega)).mono ?_
      rw [HCELL.out]
      rintro e w3 ⟨rfl, rfl⟩
      refine hK.out _ _ hHeld (fun hHeld2 => ?_)
      clear hK K hHeld2
      (try simp only [Act.put, List.setIfInBounds_toArray, List.set_cons_zero, List.set_cons_succ])
      refine take_8 (.pointer (some ⟨g, q, none⟩)) (by kernel_rfl) (by kernel_rfl) (by kernel_rfl) (fun _ _ _ h => h) (by rfl) (fun w hSw => ?_) (by assumption) ?_
      · (try dsimp only at hSw)
        go_split_ands
        go_simp
      (try simp only [Act.put, List.setIfInBounds_toArray, List.set_cons_zero, List.set_cons_succ])
      have y0 := HRL2.out.cell (i := q) (by rw [wl_len, ← HS.out]; exact hqS)
      have y1 := HRL2.out.froz q
      generalize (wl ws l k).getD q 0 = y at *
      refine call_9 (by kernel_rfl) (by rfl) (fun K hK => ?_)
      go_simp
      have HRL3 := Lib.hid (HRL2.out.set q x)
      have HON3 := Lib.hid (HON2.out.setCell (p := ⟨g, q, none⟩) (.inl HG.out) (.int .u32 x))
      refine hK.out _ _ (HWS.out.at HON3.out hlt |>.trans (by rw [HX.out])) (fun hHeld2 => ?_)
      clear hK K hHeld y0 y1 HRL2 HON2
      (try simp only [Act.put, List.setIfInBounds_toArray, List.set_cons_zero, List.set_cons_succ])
      generalize w2.setCell ⟨g, q, none⟩ (.int .u32 x) = w4 at *
      refine wpAnyH_done (by kernel_rfl) ?_ _
      clear hHeld2
      go_wp2
      exact ⟨⟨k + 1, by omega, by go_num, by have e := HRL3.out; rw [HQ.out, ← HX.out] at e; exact e, HON3.out⟩, by simp [intOf]; omega⟩
    · obtain rfl : l = k := by omega
      clear hlt hk
      go_wp2_with fail
      refine (from_ok (some ⟨g, 0, none⟩) S S (wl ws l l) _ (by omega) (HRL.out.held (by rw [wl_len]; exact HS.out.symm) S)).mono ?_
      intro e w3 hF
      obtain ⟨b, A', c', rfl, hb, hA, hM, hO⟩ := hF
      have HM := Lib.hid (Memo.of hM)
      have hgl := HRL.out.lt
      have hlt : ∀ j, At (some (⟨b, 0, none⟩ : Addr)) j ∨ At A' j → g < j ∧ j < w3.heap.size := fun j hj => by
        refine ⟨?_, HM.out.lt j hj⟩
        rcases hj with ⟨a, ha, rfl⟩ | hj
        · cases ha; show g < b; omega
        · have := hA j hj; omega
      have HLT := Lib.hid hlt
      have HGM := Lib.hid (Nat.lt_of_lt_of_le hgl hO.size)
      have HO2 := Lib.hid (HON.out.trans hO)
      have HRL2 := Lib.hid (HRL.out.only hO id)
      clear hM hO hA hb hlt hgl HRL HON
      have HMAP := Lib.hid (Row.new w3 37 #[.int .i64 l])
      have e0 := (Only.refl Nil w3).alloc (.cells #[.int .i64 l] 37)
      have HM1 := Lib.hid (HM.out.keep e0)
      have HO3 := Lib.hid (HO2.out.trans e0)
      have HRL3 := Lib.hid (HRL2.out.only e0 id)
      have HZ := Lib.hid (show (w3.alloc (.cells #[.int .i64 l] 37)).heap.size = w3.heap.size + 1 by simp)
      clear e0 HM HO2 HRL2
      go_wp2_with fail
      generalize w3.alloc (.cells #[.int .i64 l] 37) = w4 at *
      generalize w3.heap.size = M at *
      refine (begin_any 2 c _).mono ?_
      rw [beginI_2]
      rintro e w5 ⟨rfl, hO⟩
      dsimp only [WkV.v, wk0]
      have e0 := (Only.refl Nil w5).alloc (.cells #[.bool true, .int .i64 c, .int .i64 0, .bool false] 24)
      have HF0 : Hid (LF w g M w5.heap.size l (some ⟨b, 0, none⟩) A' c' #[.bool true, .int .i64 c, .int .i64 0, .bool false] (wl ws l l) (wl ws l l) (w5.alloc (.cells #[.bool true, .int .i64 c, .int .i64 0, .bool false] 24))) :=
        Lib.hid ⟨(HO3.out.trans hO).trans e0, (HM1.out.keep hO).keep e0, (HRL3.out.only hO id).only e0 id, (HMAP.out.only hO id).only e0 id, Row.new _ _ _, HLT.out, HG.out, HGM.out, by have := hO.size; have := HZ.out; omega⟩
      clear e0 hO HO3 HM1 HRL3 HMAP HZ HLT HGM
      go_wp2_with fail
      generalize w5.alloc (.cells #[.bool true, .int .i64 c, .int .i64 0, .bool false] 24) = w6 at *
      generalize w5.heap.size = K at *
      go_loopw [15] (fun sv wr => ∃ (s9 : Nat) (k : WkV) (xs : List Int), sv = .int .i64 s9 ∧ WInv ws l c s9 k xs ∧ LF w g M K l (some ⟨b, 0, none⟩) A' c' #[.bool k.on, .int .i64 k.c, .int .i64 k.i, .bool k.hit] xs (wl ws l l) wr) (fun sv _ => 2 * l - (intOf sv).toNat)
      case atStart => exact ⟨0, ⟨true, c, 0, false⟩, _, rfl, WInv.start ws l c h1, HF0.out⟩
      case round =>
        obtain ⟨s9, k, xs, rfl, hI, hF⟩ := hrel
        clear HF0
        obtain ⟨on, ck, ik, hk⟩ := k
        dsimp only at hF
        have HF := Lib.hid hF
        have HI := Lib.hid hI
        clear hF hI
        cases on
        · obtain ⟨hk0, hs1, hs2, rfl⟩ := HI.out.done rfl
          have hs1' : (l : Int) ≤ s9 := by omega
          clear hk0 hs2 HI
          have a0 : wr.cell? ⟨K, 0, none⟩ = some (.bool false) := HF.out.rk.cell_ (i := 0) rfl
          have a1 : wr.cell? ⟨K, 1, none⟩ = some (.int .i64 ck) := HF.out.rk.cell_ (i := 1) rfl
          have a2 : wr.cell? ⟨K, 2, none⟩ = some (.int .i64 ik) := HF.out.rk.cell_ (i := 2) rfl
          have a3 : wr.cell? ⟨K, 3, none⟩ = some (.bool hk) := HF.out.rk.cell_ (i := 3) rfl
          go_wp2_with fail
          clear a0 a1 a2 a3
          go_loopw [18] (fun iv wr => ∃ k : Nat, k ≤ l ∧ iv = .int .i64 k ∧ LF w g M K l (some ⟨b, 0, none⟩) A' c' #[.bool false, .int .i64 ck, .int .i64 ik, .bool hk] (pl (wl ws l l) ws l c l) (pl (wl ws l l) ws l c k) wr) (fun iv _ => l - (intOf iv).toNat)
          case atStart => exact ⟨0, Nat.zero_le _, rfl, HF.out⟩
          case round =>
            obtain ⟨k, hkl, rfl, hF2⟩ := hrel
            clear HF
            have HF := Lib.hid hF2
            clear hF2
            by_cases hlt : k < l
            · have hcell : cellI l 3 k = ((8 + 3 * l + k : Nat) : Int) := by unfold cellI; rw [if_pos (by omega)]; push_cast; rfl
              obtain ⟨q, hq⟩ : ∃ q : Nat, q = 8 + 3 * l + k := ⟨_, rfl⟩
              rw [← hq] at hcell
              have hqS : q < S := by have := HS.out; omega
              have HQ := Lib.hid hq
              have HCELL := Lib.hid hcell
              have x0 := HWS.out.at HF.out.only hlt
              generalize hx : ws.getD k 0 = x at *
              have HX := Lib.hid hx
              clear hq hcell hx
              by_cases hxc : x = c + 1
              · have hxb := beq_iff_eq.2 hxc
                have HPL : Hid (pl (wl ws l l) ws l c (k + 1) = (pl (wl ws l l) ws l c k).set q 1) := Lib.hid (by simp only [pl]; rw [if_pos (HX.out.trans hxc), HQ.out])
                clear hxc
                go_wp2_with fail
                clear x0 hxb
                refine (refCell_any l 3 k _ (by omega)).mono ?_
                rw [HCELL.out]
                rintro e w7 ⟨rfl, rfl⟩
                have y0 := HF.out.rl.cell (i := q) (by rw [pl_len, wl_len, ← HS.out]; exact hqS)
                have y1 := HF.out.rl.froz q
                generalize (pl (wl ws l l) ws l c k).getD q 0 = y at *
                go_wp2
                exact ⟨⟨k + 1, by omega, by go_num, by have e := HF.out.setL q 1; rw [← HPL.out] at e; exact e⟩, by simp [intOf]; omega⟩
              · have hxb := beq_eq_false_iff_ne.2 hxc
                have HPL : Hid (pl (wl ws l l) ws l c (k + 1) = pl (wl ws l l) ws l c k) := Lib.hid (by simp only [pl]; rw [if_neg (fun e => hxc (HX.out.symm.trans e))])
                clear hxc
                go_wp2
                exact ⟨⟨k + 1, by omega, by go_num, by have e := HF.out; rw [← HPL.out] at e; exact e⟩, by simp [intOf]; omega⟩
            · obtain rfl : l = k := by omega
              clear hlt hkl
              have HLL : Hid ((pl (wl ws l l) ws l c l).length = S) := Lib.hid (by rw [pl_len, wl_len]; exact HS.out.symm)
              generalize pl (wl ws l l) ws l c l = zs at *
              go_wp2_with fail
              refine (all_n b A' c' S zs _ HF.out.memo.mem HLL.out).mono ?_
              intro e w7 hF2
              obtain ⟨A6, c6, rfl, hOwn, hO⟩ := hF2
              have HF2 := Lib.hid (HF.out.keep hO)
              have HW6 := Lib.hid hOwn
              clear hO hOwn HF
              go_wp2_with fail
              refine (same_n A6 (some ⟨g, 0, none⟩) c6 S S zs zs _ (HW6.out.held_n HLL.out) (HF2.out.rl.held HLL.out S) (by omega)).mono ?_
              rw [show decide (zs = zs) = true by simp]
              rintro e w8 ⟨rfl, hO⟩
              have HF3 := Lib.hid (HF2.out.only.trans hO)
              clear hO HF2
              go_wp2_with fail
              refine (awake_any _).mono ?_
              rintro e w9 ⟨rfl, hO⟩
              have HO8 := Lib.hid (HF3.out.trans hO)
              clear hO HF3
              go_wp2
              go_ret
              exact ⟨rfl, HO8.out⟩
        · obtain ⟨hs, nx, ys, ka, ca, xa, ya, oa, hw, hka, hnx⟩ := HI.out.step h2 hc rfl
          dsimp only at hw
          have HW := Lib.hid hw
          have HNX := Lib.hid hnx
          have hka1 := beq_eq_false_iff_ne.2 hka
          have hs' : (s9 : Int) < 2 * l := by omega
          clear hw hnx hka HI
          have a0 : wr.cell? ⟨K, 0, none⟩ = some (.bool true) := HF.out.rk.cell_ (i := 0) rfl
          have a1 : wr.cell? ⟨K, 1, none⟩ = some (.int .i64 ck) := HF.out.rk.cell_ (i := 1) rfl
          have a2 : wr.cell? ⟨K, 2, none⟩ = some (.int .i64 ik) := HF.out.rk.cell_ (i := 2) rfl
          have a3 : wr.cell? ⟨K, 3, none⟩ = some (.bool hk) := HF.out.rk.cell_ (i := 3) rfl
          have m0 : wr.cell? ⟨M, 0, none⟩ = some (.int .i64 l) := HF.out.rm.cell_ (i := 0) rfl
          go_wp2_with fail
          clear a0 a1 a2 a3 m0
          refine (wstep_any (some ⟨b, 0, none⟩) A' c' xs l true ck ik hk _ HF.out.memo).mono ?_
          rw [HW.out]
          obtain ⟨b0, c0, i0, h0⟩ := nx
          intro e w7 hF
          obtain ⟨rfl, hO, hM⟩ := hF
          dsimp only [WkV.v] at hM ⊢
          have HF2 := Lib.hid (HF.out.call hO hM)
          clear hO hM HF HW
          have HKG := Lib.hid HF2.out.rk.lt
          have HF3 := Lib.hid (HF2.out.keep (((Only.refl Nil w7).alloc (.cells #[.bool b0, .int .i64 c0, .int .i64 i0, .bool h0] 24)).alloc (.cells #[.int .i64 ka, .int .i64 ca, .int .u32 xa, .int .u32 ya, .int .u32 oa] 33)))
          have HR16 := Lib.hid ((Row.new w7 24 #[.bool b0, .int .i64 c0, .int .i64 i0, .bool h0]).alloc (.cells #[.int .i64 ka, .int .i64 ca, .int .u32 xa, .int .u32 ya, .int .u32 oa] 33))
          have HR17 := Lib.hid (Row.new2 w7 (.cells #[.bool b0, .int .i64 c0, .int .i64 i0, .bool h0] 24) 33 #[.int .i64 ka, .int .i64 ca, .int .u32 xa, .int .u32 ya, .int .u32 oa])
          clear HF2
          go_upto_region 21 with (fail)
          generalize (w7.alloc (.cells #[.bool b0, .int .i64 c0, .int .i64 i0, .bool h0] 24)).alloc (.cells #[.int .i64 ka, .int .i64 ca, .int .u32 xa, .int .u32 ya, .int .u32 oa] 33) = w8 at *
          generalize w7.heap.size = G at *
          have a0 : w8.cell? ⟨K, 0, none⟩ = some (.bool true) := HF3.out.rk.cell_ (i := 0) rfl
          have a1 : w8.cell? ⟨K, 1, none⟩ = some (.int .i64 ck) := HF3.out.rk.cell_ (i := 1) rfl
          have a2 : w8.cell? ⟨K, 2, none⟩ = some (.int .i64 ik) := HF3.out.rk.cell_ (i := 2) rfl
          have a3 : w8.cell? ⟨K, 3, none⟩ = some (.bool hk) := HF3.out.rk.cell_ (i := 3) rfl
          have f0 : w8.frozen? ⟨K, 0, none⟩ = false := HF3.out.rk.frozen 0
          have f1 : w8.frozen? ⟨K, 1, none⟩ = false := HF3.out.rk.frozen 1
          have f2 : w8.frozen? ⟨K, 2, none⟩ = false := HF3.out.rk.frozen 2
          have f3 : w8.frozen? ⟨K, 3, none⟩ = false := HF3.out.rk.frozen 3
          have d0 : w8.cell? ⟨G, 0, none⟩ = some (.bool b0) := HR16.out.cell_ (i := 0) rfl
          have d1 : w8.cell? ⟨G, 1, none⟩ = some (.int .i64 c0) := HR16.out.cell_ (i := 1) rfl
          have d2 : w8.cell? ⟨G, 2, none⟩ = some (.int .i64 i0) := HR16.out.cell_ (i := 2) rfl
          have d3 : w8.cell? ⟨G, 3, none⟩ = some (.bool h0) := HR16.out.cell_ (i := 3) rfl
          have t0 : w8.cell? ⟨G + 1, 0, none⟩ = some (.int .i64 ka) := HR17.out.cell_ (i := 0) rfl
          have t1 : w8.cell? ⟨G + 1, 1, none⟩ = some (.int .i64 ca) := HR17.out.cell_ (i := 1) rfl
          have t2 : w8.cell? ⟨G + 1, 2, none⟩ = some (.int .u32 xa) := HR17.out.cell_ (i := 2) rfl
          have t3 : w8.cell? ⟨G + 1, 3, none⟩ = some (.int .u32 ya) := HR17.out.cell_ (i := 3) rfl
          have t4 : w8.cell? ⟨G + 1, 4, none⟩ = some (.int .u32 oa) := HR17.out.cell_ (i := 4) rfl
          go_wp2
          clear a0 a1 a2 a3 f0 f1 f2 f3 d0 d1 d2 d3 t0 t1 t2 t3 t4
          exact ⟨⟨s9 + 1, ⟨b0, c0, i0, h0⟩, ys, by go_num, HNX.out, HF3.out.setK (.bool b0) (.int .i64 c0) (.int .i64 i0) (.bool h0)⟩, by simp [intOf]; omega⟩

set_option maxHeartbeats 1000000 in
theorem wall_spin (l cap : Nat) (ws : List Int) (c mode : Int) (w : World) (A : Option Addr) (hr : IsRow .u32 w A l cap ws) (h1 : 1 ≤ l) (h2 : l ≤ 64) (hc : 0 ≤ c ∧ c < 256) (hm : mode ≠ 2) :
    Calls Try.prog 4 #[.slice A l cap, .int .u8 c, .int .i64 mode] w fun e w' => e = .returned (.bool true) ∧ Only Nil w w' := by
  have HMO := Lib.hid hm
  have hm1 := beq_eq_false_iff_ne.2 hm
  have hm2 : (mode != 2) = true := bne_iff_ne.2 hm
  clear hm
  obtain ⟨b1, o1, rfl, hb1, hcell⟩ := hr.ints (by rw [hr.len_]; omega)
  have HWS : Hid (Lies4 w b1 o1 l ws) := Lib.hid ⟨hb1, fun i hi => hcell i (by rw [hr.len_]; exact hi)⟩
  have HLN := Lib.hid hr.len_
  clear hcell hb1 hr
  have hL1 : (1 : Int) ≤ l := by omega
  have hL2 : (l : Int) ≤ 64 := by omega
  obtain ⟨S, hS⟩ : ∃ S : Nat, S = 8 + 4 * l := ⟨_, rfl⟩
  have hSz : sizeI l = S := by unfold sizeI; rw [if_pos ⟨hL1, hL2⟩]; omega
  have HS := Lib.hid hS
  have hS2 : (S : Int) ≤ 1024 := by omega
  have hneq : ((S : Int) != 8 + 4 * (l : Int)) = false := by rw [hS]; simp
  clear hS
  go_enter Try.func4, Try.ntmps4
  go_wp2_with fail
  refine (first4_row l S _ ⟨hL1, hL2⟩ hSz).mono ?_
  intro e w1 hF
  obtain ⟨g, rfl, hg, hR, hO⟩ := hF
  have HO := Lib.hid hO
  have HG := Lib.hid hg
  have HR : Hid (RowL w1 g (wl ws l 0)) := Lib.hid (by rw [HS.out] at hR; exact hR)
  clear hO hR hg hSz
  go_wp2_with fail
  clear hneq
  go_loopw [10] (fun iv wr => ∃ k : Nat, k ≤ l ∧ iv = .int .i64 k ∧ RowL wr g (wl ws l k) ∧ Only Nil w wr) (fun iv _ => l - (intOf iv).toNat)
  case atStart => exact ⟨0, Nat.zero_le _, rfl, HR.out, HO.out⟩
  case round =>
    obtain ⟨k, hk, rfl, hRL, hOn⟩ := hrel
    have HRL := Lib.hid hRL
    have HON := Lib.hid hOn
    clear hRL hOn HR HO
    by_cases hlt : k < l
    · have hcell : cellI l 2 k = ((8 + 2 * l + k : Nat) : Int) := by unfold cellI; rw [if_pos (by omega)]; push_cast; rfl
      obtain ⟨q, hq⟩ : ∃ q : Nat, q = 8 + 2 * l + k := ⟨_, rfl⟩
      rw [← hq] at hcell
      have hqS : q < S := by have := HS.out; omega
      have HQ := Lib.hid hq
      have HCELL := Lib.hid hcell
      have x0 := HWS.out.at HON.out hlt
      generalize hx : ws.getD k 0 = x at *
      have HX := Lib.hid hx
      clear hq hcell hx
      go_wp2_with fail
      refine wp_region_held_drew (S := fun w' => w'.cell? ⟨b1, o1 + k, none⟩ = some (.int .u32 x)) (by kernel_rfl) x0 (fun hHeld => ?_)
      have HRL2 := Lib.hid HRL.out.drew
      have HON2 := Lib.hid HON.out.drew
      clear x0 HRL HON
      generalize wr.drew = w2 at *
      refine take_0 (.slice (some ⟨g, 0, none⟩) S S) (by kernel_rfl) (by kernel_rfl) (by kernel_rfl) (fun _ _ _ h => h) (by rfl) (fun w hSw => ?_) (by assumption) ?_
      · (try dsimp only at hSw)
        go_split_ands
        go_simp
      (try simp only [Act.put, List.setIfInBounds_toArray, List.set_cons_zero, List.set_cons_succ])
      refine take_1 (.int .i64 l) (by kernel_rfl) (by kernel_rfl) (by kernel_rfl) (fun _ _ _ h => h) (by rfl) (fun w hSw => ?_) (by assumption) ?_
      · (try dsimp only at hSw)
        go_split_ands
        go_simp
      (try simp only [Act.put, List.setIfInBounds_toArray, List.set_cons_zero, List.set_cons_succ])
      refine take_2 (.int .i64 k) (by kernel_rfl) (by kernel_rfl) (by kernel_rfl) (fun _ _ _ h => h) (by rfl) (fun w hSw => ?_) (by assumption) ?_
      · (try dsimp only at hSw)
        go_split_ands
        go_simp
      (try simp only [Act.put, List.setIfInBounds_toArray, List.set_cons_zero, List.set_cons_succ])
      refine take_4 (.slice (some ⟨b1, o1, none⟩) l cap) (by kernel_rfl) (by kernel_rfl) (by kernel_rfl) (fun _ _ _ h => h) (by rfl) (fun w hSw => ?_) (by assumption) ?_
      · (try dsimp only at hSw)
        go_split_ands
        go_simp
      (try simp only [Act.put, List.setIfInBounds_toArray, List.set_cons_zero, List.set_cons_succ])
      refine take_5 (.int .i64 k) (by kernel_rfl) (by kernel_rfl) (by kernel_rfl) (fun _ _ _ h => h) (by rfl) (fun w hSw => ?_) (by assumption) ?_
      · (try dsimp only at hSw)
        go_split_ands
        go_simp
      (try simp only [Act.put, List.setIfInBounds_toArray, List.set_cons_zero, List.set_cons_succ])
      refine take_6 (.pointer (some ⟨b1, o1 + k, none⟩)) (by kernel_rfl) (by kernel_rfl) (by kernel_rfl) (fun _ _ _ h => h) (by rfl) (fun w hSw => ?_) (by assumption) ?_
      · (try dsimp only at hSw)
        go_split_ands
        go_simp
      (try simp only [Act.put, List.setIfInBounds_toArray, List.set_cons_zero, List.set_cons_succ])
      refine take_7 (.int .u32 x) (by kernel_rfl) (by kernel_rfl) (by kernel_rfl) (fun _ _ _ h => h) (by rfl) (fun w hSw => ?_) (by assumption) ?_
      · (try dsimp only at hSw)
        go_split_ands
        go_simp
      (try simp only [Act.put, List.setIfInBounds_toArray, List.set_cons_zero, List.set_cons_succ])
      refine call_3 (by kernel_rfl) (by rfl) (fun K hK => ?_)
      go_simp
      refine (refCell_any l 2 k _ (by omega)).mono ?_
      rw [HCELL.out]
      rintro e w3 ⟨rfl, rfl⟩
      refine hK.out _ _ hHeld (fun hHeld2 => ?_)
      clear hK K hHeld2
      (try simp only [Act.put, List.setIfInBounds_toArray, List.set_cons_zero, List.set_cons_succ])
      refine take_8 (.pointer (some ⟨g, q, none⟩)) (by kernel_rfl) (by kernel_rfl) (by kernel_rfl) (fun _ _ _ h => h) (by rfl) (fun w hSw => ?_) (by assumption) ?_
      · (try dsimp only at hSw)
        go_split_ands
        go_simp
      (try simp only [Act.put, List.setIfInBounds_toArray, List.set_cons_zero, List.set_cons_succ])
      have y0 := HRL2.out.cell (i := q) (by rw [wl_len, ← HS.out]; exact hqS)
      have y1 := HRL2.out.froz q
      generalize (wl ws l k).getD q 0 = y at *
      refine call_9 (by kernel_rfl) (by rfl) (fun K hK => ?_)
      go_simp
      have HRL3 := Lib.hid (HRL2.out.set q x)
      have HON3 := Lib.hid (HON2.out.setCell (p := ⟨g, q, none⟩) (.inl HG.out) (.int .u32 x))
      refine hK.out _ _ (HWS.out.at HON3.out hlt |>.trans (by rw [HX.out])) (fun hHeld2 => ?_)
      clear hK K hHeld y0 y1 HRL2 HON2
      (try simp only [Act.put, List.setIfInBounds_toArray, List.set_cons_zero, List.set_cons_succ])
      generalize w2.setCell ⟨g, q, none⟩ (.int .u32 x) = w4 at *
      refine wpAnyH_done (by kernel_rfl) ?_ _
      clear hHeld2
      go_wp2
      exact ⟨⟨k + 1, by omega, by go_num, by have e := HRL3.out; rw [HQ.out, ← HX.out] at e; exact e, HON3.out⟩, by simp [intOf]; omega⟩
    · obtain rfl : l = k := by omega
      clear hlt hk
      go_wp2_with fail
      refine (from_ok (some ⟨g, 0, none⟩) S S (wl ws l l) _ (by omega) (HRL.out.held (by rw [wl_len]; exact HS.out.symm) S)).mono ?_
      intro e w3 hF
      obtain ⟨b, A', c', rfl, hb, hA, hM, hO⟩ := hF
      have HM := Lib.hid (Memo.of hM)
      have hgl := HRL.out.lt
      have hlt : ∀ j, At (some (⟨b, 0, none⟩ : Addr)) j ∨ At A' j → g < j ∧ j < w3.heap.size := fun j hj => by
        refine ⟨?_, HM.out.lt j hj⟩
        rcases hj with ⟨a, ha, rfl⟩ | hj
        · cases ha; show g < b; omega
        · have := hA j hj; omega
      have HLT := Lib.hid hlt
      have HGM := Lib.hid (Nat.lt_of_lt_of_le hgl hO.size)
      have HO2 := Lib.hid (HON.out.trans hO)
      have HRL2 := Lib.hid (HRL.out.only hO id)
      clear hM hO hA hb hlt hgl HRL HON
      have HMAP := Lib.hid (Row.new w3 37 #[.int .i64 l])
      have e0 := (Only.refl Nil w3).alloc (.cells #[.int .i64 l] 37)
      have HM1 := Lib.hid (HM.out.keep e0)
      have HO3 := Lib.hid (HO2.out.trans e0)
      have HRL3 := Lib.hid (HRL2.out.only e0 id)
      have HZ := Lib.hid (show (w3.alloc (.cells #[.int .i64 l] 37)).heap.size = w3.heap.size + 1 by simp)
      clear e0 HM HO2 HRL2
      go_wp2_with fail
      generalize w3.alloc (.cells #[.int .i64 l] 37) = w4 at *
      generalize w3.heap.size = M at *
      refine (begin_any mode c _).mono ?_
      rw [(beginI_no HMO.out c)]
      rintro e w5 ⟨rfl, hO⟩
      dsimp only [WkV.v, wk0]
      have e0 := (Only.refl Nil w5).alloc (.cells #[.bool false, .int .i64 0, .int .i64 0, .bool false] 24)
      have HF0 : Hid (LF w g M w5.heap.size l (some ⟨b, 0, none⟩) A' c' #[.bool false, .int .i64 0, .int .i64 0, .bool false] (wl ws l l) (wl ws l l) (w5.alloc (.cells #[.bool false, .int .i64 0, .int .i64 0, .bool false] 24))) :=
        Lib.hid ⟨(HO3.out.trans hO).trans e0, (HM1.out.keep hO).keep e0, (HRL3.out.only hO id).only e0 id, (HMAP.out.only hO id).only e0 id, Row.new _ _ _, HLT.out, HG.out, HGM.out, by have := hO.size; have := HZ.out; omega⟩
      clear e0 hO HO3 HM1 HRL3 HMAP HZ HLT HGM
      go_wp2_with fail
      generalize w5.alloc (.cells #[.bool false, .int .i64 0, .int .i64 0, .bool false] 24) = w6 at *
      generalize w5.heap.size = K at *
      go_loopw [15] (fun sv wr => sv = .int .i64 0 ∧ LF w g M K l (some ⟨b, 0, none⟩) A' c' #[.bool false, .int .i64 0, .int .i64 0, .bool false] (wl ws l l) (wl ws l l) wr) (fun sv _ => 0)
      case atStart => exact ⟨rfl, HF0.out⟩
      case round =>
        obtain ⟨rfl, hF⟩ := hrel
        clear HF0
        have HF := Lib.hid hF
        clear hF
        have a0 : wr.cell? ⟨K, 0, none⟩ = some (.bool false) := HF.out.rk.cell_ (i := 0) rfl
        have a1 : wr.cell? ⟨K, 1, none⟩ = some (.int .i64 0) := HF.out.rk.cell_ (i := 1) rfl
        have a2 : wr.cell? ⟨K, 2, none⟩ = some (.int .i64 0) := HF.out.rk.cell_ (i := 2) rfl
        have a3 : wr.cell? ⟨K, 3, none⟩ = some (.bool false) := HF.out.rk.cell_ (i := 3) rfl
        go_wp2_with fail
        clear a0 a1 a2 a3
        go_loopw [18] (fun iv wr => ∃ k : Nat, k ≤ l ∧ iv = .int .i64 k ∧ LF w g M K l (some ⟨b, 0, none⟩) A' c' #[.bool false, .int .i64 0, .int .i64 0, .bool false] (wl ws l l) (wl ws l l) wr) (fun iv _ => l - (intOf iv).toNat)
        case atStart => exact ⟨0, Nat.zero_le _, rfl, HF.out⟩
        case round =>
          obtain ⟨k, hkl, rfl, hF2⟩ := hrel
          clear HF
          have HF := Lib.hid hF2
          clear hF2
          by_cases hlt : k < l
          · go_wp2
            exact ⟨⟨k + 1, by omega, by go_num, HF.out⟩, by simp [intOf]; omega⟩
          · obtain rfl : l = k := by omega
            clear hlt hkl
            have HLL : Hid ((wl ws l l).length = S) := Lib.hid (by rw [wl_len]; exact HS.out.symm)
            generalize wl ws l l = zs at *
            go_wp2_with fail
            refine (all_n b A' c' S zs _ HF.out.memo.mem HLL.out).mono ?_
            intro e w7 hF2
            obtain ⟨A6, c6, rfl, hOwn, hO⟩ := hF2
            have HF2 := Lib.hid (HF.out.keep hO)
            have HW6 := Lib.hid hOwn
            clear hO hOwn HF
            go_wp2_with fail
            refine (same_n A6 (some ⟨g, 0, none⟩) c6 S S zs zs _ (HW6.out.held_n HLL.out) (HF2.out.rl.held HLL.out S) (by omega)).mono ?_
            rw [show decide (zs = zs) = true by simp]
            rintro e w8 ⟨rfl, hO⟩
            have HF3 := Lib.hid (HF2.out.only.trans hO)
            clear hO HF2
            go_wp2_with fail
            refine (awake_any _).mono ?_
            rintro e w9 ⟨rfl, hO⟩
            have HO8 := Lib.hid (HF3.out.trans hO)
            clear hO HF3
            go_wp2
            go_ret
            exact ⟨rfl, HO8.out⟩

theorem walk_wakeAll (a0 : Option Addr) (len0 cap0 : Nat) (z0 : List Int) (a1 a2 : Int) (w : World) (w0 : IsRow .u32 w a0 len0 cap0 z0) (w1 : (Lit.int .u8 a1).wf = true) (w2 : (Lit.int .i64 a2).wf = true) :
    Calls Try.prog 4 #[.slice a0 len0 cap0, .int .u8 a1, .int .i64 a2] w fun e w' => e = .returned (.bool true) ∧ Below w.heap.size w w' := by
  have fin : Calls Try.prog 4 #[.slice a0 len0 cap0, .int .u8 a1, .int .i64 a2] w fun e w' => e = .returned (.bool true) ∧ Only Nil w w' := by
    by_cases h : len0 < 1 ∨ 64 < len0
    · exact wall_away a0 len0 cap0 a1 a2 w h
    · by_cases hm : a2 = 2
      · subst hm
        exact wall_main len0 cap0 z0 a1 w a0 w0 (by omega) (by omega) (wf_u8 w1)
      · exact wall_spin len0 cap0 z0 a1 a2 w a0 w0 (by omega) (by omega) (wf_u8 w1) hm
  exact fin.mono fun _ _ ⟨he, hO⟩ => ⟨he, hO.below (Nat.le_refl _) (fun _ _ h => h)⟩
end Go.Proofs.Ytjdgniconbocnaa
