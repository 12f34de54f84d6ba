/- ParkPlays: the walk. -/
import Derived.Test.YtcdndaobdhbplaaParkTwo
import Derived.Deep.RegionHeld3
set_option linter.unusedVariables false
set_option linter.unusedSimpArgs false
namespace Go.Proofs.Ytcdndaobdhbplaa
open Go.RowKit

theorem play_away (A B : Option Addr) (l cap m capb : Nat) (n : Int) (w : World) (h : 1024 < l ∨ 40 < m) :
    Calls Try.prog 3 #[.slice A l cap, .int .i64 n, .slice B m capb] w fun e w' => e = .returned (.bool true) ∧ Only Nil w w' := by
  by_cases h1 : (l : Int) ≤ 1024
  · have h2 : 40 < (m : Int) := by omega
    go_enter Try.func3, Try.ntmps3
    go_wp2_with fail
    refine (awake_any _).mono ?_
    rintro e w2 ⟨rfl, hO⟩
    have HO := Lib.hid hO
    clear hO
    go_wp2
    go_ret
    exact ⟨rfl, HO.out⟩
  · have h2 : 1024 < (l : Int) := by omega
    go_enter Try.func3, Try.ntmps3
    go_wp2_with fail
    refine (awake_any _).mono ?_
    rintro e w2 ⟨rfl, hO⟩
    have HO := Lib.hid hO
    clear hO
    go_wp2
    go_ret
    exact ⟨rfl, HO.out⟩

/-- What a call leaves of the two: they stand as they stood, and nothing but their own blocks was touched. -/
def Step (w0 : World) (B : Nat) (p A : Option Addr) (cp : Nat) (n : Int) (base : Nat) (A2 : Option Addr) (c2 : Nat) (xs : List Int) (w w' : World) : Prop := Only (Those p A A2 B) w w' ∧ Two w0 B p A cp n base A2 c2 w' xs xs

set_option maxRecDepth 100000 in
set_option maxHeartbeats 1600000 in
theorem play_main (A B : Option Addr) (l cap m capb : Nat) (n : Int) (xs : List Int) (w : World) (hr : IsRow .u32 w A l cap xs) (ha : IsOps w B m) (hm : l ≤ 1024) (hb : m ≤ 40) :
    Calls Try.prog 3 #[.slice A l cap, .int .i64 n, .slice B m capb] w fun e w' => e = .returned (.bool true) ∧ Only Nil w w' := by
  have hm' : (l : Int) ≤ 1024 := by omega
  have hb' : (m : Int) ≤ 40 := by omega
  have HR := Lib.hid hr
  have HC := Lib.hid ha
  clear hr ha
  go_enter Try.func3, Try.ntmps3
  go_wp2_with fail
  refine (from_ok A l cap xs _ hm (isRow_held HR.out)).mono ?_
  intro e w1 hF
  obtain ⟨b, A', c', rfl, hb, hA, hM, hO⟩ := hF
  have HM0 : Hid (Memo w1 (some ⟨b, 0, none⟩) A' c' xs) := Lib.hid (Memo.of hM)
  have hl : ∀ j, At (some (⟨b, 0, none⟩ : Addr)) j ∨ At A' j → w.heap.size ≤ j ∧ j < w1.heap.size := fun j hj => by
    refine ⟨?_, HM0.out.lt j hj⟩
    rcases hj with ⟨a, ha, rfl⟩ | hj
    · cases ha; exact hb
    · exact hA j hj
  have HL := Lib.hid hl
  have HO1 : Hid (Only Nil w w1) := Lib.hid hO
  clear hM hO hA hb hl
  have HK0 : Hid (Lk w w1.heap.size (some ⟨b, 0, none⟩) A' c' n (w1.alloc (Obj.cells #[Value.int IntKind.i64 n] 30)) xs) :=
    Lib.hid ⟨HO1.out.alloc _, HM0.out.keep ((Only.refl Nil _).alloc _), Row.new _ _ _, HL.out⟩
  go_wp2_with fail
  refine (copy_n A l cap xs _ (by omega) ((isRow_held HR.out).only HK0.out.only (fun _ _ => id))).mono ?_
  intro e w2 hF
  obtain ⟨A2, c2, rfl, hOwn, hO⟩ := hF
  have HT0 : Hid (Two w w1.heap.size (some ⟨b, 0, none⟩) A' c' n (w1.heap.size + 1) A2 c2 w2 xs xs) :=
    Lib.hid ⟨HK0.out.keep hO, by simpa using hOwn, by omega, HO1.out.size⟩
  clear hOwn hO
  generalize hB : w1.heap.size = B at *
  clear hB
  go_wp2
  go_loopw [11] (fun i wr => ∃ k : Nat, k ≤ m ∧ i = .int .i64 k ∧ ∃ ys, ys.length = l ∧ Two w B (some ⟨b, 0, none⟩) A' c' n (B + 1) A2 c2 wr ys ys) (fun i _ => m - (intOf i).toNat)
  case atStart => exact ⟨0, Nat.zero_le _, rfl, xs, HR.out.len_, HT0.out⟩
  case round =>
    obtain ⟨k, hk, rfl, ys, hys, ht⟩ := hrel
    have HYS := Lib.hid hys
    have HTR := Lib.hid ht
    have m0 : wr.cell? ⟨B, 0, none⟩ = some (.int .i64 n) := ht.lk.map.cell_ (i := 0) rfl
    have m3 : ∀ o1 o2 o3, (((wr.alloc o1).alloc o2).alloc o3).cell? ⟨B, 0, none⟩ = some (.int .i64 n) := fun o1 o2 o3 => (((ht.lk.map.alloc o1).alloc o2).alloc o3).cell_ (i := 0) rfl
    have l0 := ht.lk.map.lt
    clear hys ht
    by_cases hlt : k < m
    · obtain ⟨bo, q, kk, t, rfl, hp, f0, f1⟩ := HC.out k hlt
      have g0 := (HTR.out.lk.only.cell (p := ⟨bo, q + k * 2, none⟩) hp id).trans f0
      have g1 := (HTR.out.lk.only.cell (p := ⟨bo, q + k * 2 + 1, none⟩) hp id).trans f1
      have hpl : bo < wr.heap.size := by have := HTR.out.lk.only.size; omega
      clear f0 f1
      by_cases hk0 : kk = 0
      · subst hk0
        go_wp2_with fail
        have e0 := (((Only.refl Nil wr).alloc (Obj.cells #[.int .i64 0, .int .i64 t] 33)).alloc (Obj.cells #[Value.int IntKind.i64 0, Value.int IntKind.i64 0, Value.int IntKind.u32 0, Value.int IntKind.u32 0, Value.int IntKind.u32 0] 36)).alloc (Obj.cells #[Value.int IntKind.i64 0, Value.int IntKind.i64 0, Value.int IntKind.u32 0, Value.int IntKind.u32 0, Value.int IntKind.u32 0] 36)
        refine (give_any (some ⟨b, 0, none⟩) A' c' ys n t _ (HTR.out.keep e0).lk.memo).mono ?_
        obtain ⟨k1, x1, x2, x3, x4, hv⟩ := giveVal_form ys n t
        rw [hv]
        have hln : (st ys (pc n t) 1).length = l := by rw [st_len]; exact HYS.out
        generalize hok : (there ys (pc n t)) = ok
        generalize hz : st ys (pc n t) 1 = zs at *
        have HV := Lib.hid hv
        have HOK := Lib.hid hok
        have HZ := Lib.hid hz
        have HLN := Lib.hid hln
        rintro e w3 ⟨rfl, hO, hM⟩
        have HT3 := Lib.hid ((HTR.out.keep e0).prog hO hM)
        have hfar : ∀ g, wr.heap.size ≤ g → ¬ At A' g := fun g hg h => by have := HTR.out.lt _ (.inr (.inl h)); omega
        have HR12 := Lib.hid ((((Row.new wr 33 #[.int .i64 0, .int .i64 t]).alloc (Obj.cells #[Value.int IntKind.i64 0, Value.int IntKind.i64 0, Value.int IntKind.u32 0, Value.int IntKind.u32 0, Value.int IntKind.u32 0] 36)).alloc (Obj.cells #[Value.int IntKind.i64 0, Value.int IntKind.i64 0, Value.int IntKind.u32 0, Value.int IntKind.u32 0, Value.int IntKind.u32 0] 36)).only hO (hfar _ (by omega)))
        have HR13 := Lib.hid (((Row.new2 wr (Obj.cells #[.int .i64 0, .int .i64 t] 33) 36 #[Value.int IntKind.i64 0, Value.int IntKind.i64 0, Value.int IntKind.u32 0, Value.int IntKind.u32 0, Value.int IntKind.u32 0]).alloc (Obj.cells #[Value.int IntKind.i64 0, Value.int IntKind.i64 0, Value.int IntKind.u32 0, Value.int IntKind.u32 0, Value.int IntKind.u32 0] 36)).only hO (hfar _ (by omega)))
        have HR14 : Hid (Row w3 (wr.heap.size + 1 + 1) 36 #[Value.int IntKind.i64 0, Value.int IntKind.i64 0, Value.int IntKind.u32 0, Value.int IntKind.u32 0, Value.int IntKind.u32 0]) := Lib.hid (by
          refine Row.only ?_ hO (hfar _ (by omega))
          simpa using Row.new2 (wr.alloc (Obj.cells #[.int .i64 0, .int .i64 t] 33)) (Obj.cells #[Value.int IntKind.i64 0, Value.int IntKind.i64 0, Value.int IntKind.u32 0, Value.int IntKind.u32 0, Value.int IntKind.u32 0] 36) 36 #[Value.int IntKind.i64 0, Value.int IntKind.i64 0, Value.int IntKind.u32 0, Value.int IntKind.u32 0, Value.int IntKind.u32 0])
        have c12 : w3.cell? ⟨wr.heap.size, 1, none⟩ = some (.int .i64 t) := HR12.out.cell_ (i := 1) rfl
        have c130 : w3.cell? ⟨wr.heap.size + 1, 0, none⟩ = some (.int .i64 0) := HR13.out.cell_ (i := 0) rfl
        have c131 : w3.cell? ⟨wr.heap.size + 1, 1, none⟩ = some (.int .i64 0) := HR13.out.cell_ (i := 1) rfl
        have c132 : w3.cell? ⟨wr.heap.size + 1, 2, none⟩ = some (.int .u32 0) := HR13.out.cell_ (i := 2) rfl
        have c133 : w3.cell? ⟨wr.heap.size + 1, 3, none⟩ = some (.int .u32 0) := HR13.out.cell_ (i := 3) rfl
        have c134 : w3.cell? ⟨wr.heap.size + 1, 4, none⟩ = some (.int .u32 0) := HR13.out.cell_ (i := 4) rfl
        have f130 : w3.frozen? ⟨wr.heap.size + 1, 0, none⟩ = false := HR13.out.frozen 0
        have f131 : w3.frozen? ⟨wr.heap.size + 1, 1, none⟩ = false := HR13.out.frozen 1
        have f132 : w3.frozen? ⟨wr.heap.size + 1, 2, none⟩ = false := HR13.out.frozen 2
        have f133 : w3.frozen? ⟨wr.heap.size + 1, 3, none⟩ = false := HR13.out.frozen 3
        have f134 : w3.frozen? ⟨wr.heap.size + 1, 4, none⟩ = false := HR13.out.frozen 4
        have HG := Lib.hid (fun j (hj : Those (some ⟨b, 0, none⟩) A' A2 B j) => HTR.out.lt j hj)
        have HG0 := Lib.hid (show w.heap.size ≤ wr.heap.size from HTR.out.lk.only.size)
        clear hO hM hv hok hz hln hfar m0 m3 l0 e0
        go_wp2_with fail
        have HT4 := HT3.out.five (g := wr.heap.size + 1) (fun j hj => by have := HG.out j hj; omega) (by have := HG0.out; omega) (.int .i64 k1) (.int .i64 x1) (.int .u32 x2) (.int .u32 x3) (.int .u32 x4)
        refine (rgive_any (B + 1) A2 l c2 ys n t _ HT4.own HYS.out).mono ?_
        rw [HV.out, HOK.out, HZ.out]
        rintro e w4 ⟨rfl, hO, hW⟩
        have hfar : ∀ g, wr.heap.size ≤ g → ¬ At A2 g := fun g hg h => by have := HG.out _ (.inr (.inr (.inl h))); omega
        have HT5 := Lib.hid (HT4.answ hO hW)
        have HS12 := Lib.hid ((five_far (g := wr.heap.size + 1) HR12.out (by omega) (.int .i64 k1) (.int .i64 x1) (.int .u32 x2) (.int .u32 x3) (.int .u32 x4)).only hO (hfar _ (by omega)))
        have HS13 := Lib.hid ((five HR13.out (.int .i64 k1) (.int .i64 x1) (.int .u32 x2) (.int .u32 x3) (.int .u32 x4)).only hO (hfar _ (by omega)))
        have HS14 := Lib.hid ((five_far (g := wr.heap.size + 1) HR14.out (by omega) (.int .i64 k1) (.int .i64 x1) (.int .u32 x2) (.int .u32 x3) (.int .u32 x4)).only hO (hfar _ (by omega)))
        have c140 : w4.cell? ⟨wr.heap.size + 1 + 1, 0, none⟩ = some (.int .i64 0) := HS14.out.cell_ (i := 0) rfl
        have c141 : w4.cell? ⟨wr.heap.size + 1 + 1, 1, none⟩ = some (.int .i64 0) := HS14.out.cell_ (i := 1) rfl
        have c142 : w4.cell? ⟨wr.heap.size + 1 + 1, 2, none⟩ = some (.int .u32 0) := HS14.out.cell_ (i := 2) rfl
        have c143 : w4.cell? ⟨wr.heap.size + 1 + 1, 3, none⟩ = some (.int .u32 0) := HS14.out.cell_ (i := 3) rfl
        have c144 : w4.cell? ⟨wr.heap.size + 1 + 1, 4, none⟩ = some (.int .u32 0) := HS14.out.cell_ (i := 4) rfl
        have f140 : w4.frozen? ⟨wr.heap.size + 1 + 1, 0, none⟩ = false := HS14.out.frozen 0
        have f141 : w4.frozen? ⟨wr.heap.size + 1 + 1, 1, none⟩ = false := HS14.out.frozen 1
        have f142 : w4.frozen? ⟨wr.heap.size + 1 + 1, 2, none⟩ = false := HS14.out.frozen 2
        have f143 : w4.frozen? ⟨wr.heap.size + 1 + 1, 3, none⟩ = false := HS14.out.frozen 3
        have f144 : w4.frozen? ⟨wr.heap.size + 1 + 1, 4, none⟩ = false := HS14.out.frozen 4
        clear hO hW hfar HT4 c12 c130 c131 c132 c133 c134 f130 f131 f132 f133 f134
        go_wp2_with fail
        have HTW := HT5.out.five (g := wr.heap.size + 1 + 1) (fun j hj => by have := HG.out j hj; omega) (by have := HG0.out; omega) (.int .i64 k1) (.int .i64 x1) (.int .u32 x2) (.int .u32 x3) (.int .u32 x4)
        have R12 := five_far (g := wr.heap.size + 1 + 1) HS12.out (by omega) (.int .i64 k1) (.int .i64 x1) (.int .u32 x2) (.int .u32 x3) (.int .u32 x4)
        have R13 := five_far (g := wr.heap.size + 1 + 1) HS13.out (by omega) (.int .i64 k1) (.int .i64 x1) (.int .u32 x2) (.int .u32 x3) (.int .u32 x4)
        have R14 := five HS14.out (.int .i64 k1) (.int .i64 x1) (.int .u32 x2) (.int .u32 x3) (.int .u32 x4)
        clear HT5 HS12 HS13 HS14 HT3 HR12 HR13 HR14 c140 c141 c142 c143 c144 f140 f141 f142 f143 f144
        generalize (((((w4.setCell ⟨wr.heap.size + 1 + 1, 0, none⟩ (.int .i64 k1)).setCell ⟨wr.heap.size + 1 + 1, 1, none⟩ (.int .i64 x1)).setCell ⟨wr.heap.size + 1 + 1, 2, none⟩ (.int .u32 x2)).setCell ⟨wr.heap.size + 1 + 1, 3, none⟩ (.int .u32 x3)).setCell ⟨wr.heap.size + 1 + 1, 4, none⟩ (.int .u32 x4)) = W at *
        have HHAS : Hid (∀ W, Two w B (some ⟨b, 0, none⟩) A' c' n (B + 1) A2 c2 W zs zs → Calls Try.prog 13 #[.pointer (some ⟨b, 0, none⟩), .agg #[.int .i64 n], .int .i64 t] W fun e w' => e = .returned (.bool (hasP zs n t)) ∧ Step w B (some ⟨b, 0, none⟩) A' c' n (B + 1) A2 c2 zs W w') := Lib.hid fun W hW =>
          (has_any (some ⟨b, 0, none⟩) A' c' zs n t W hW.lk.memo).mono fun e w' ⟨h1, h2, h3⟩ => ⟨h1, h2.mono (fun _ _ h => .inr (.inl h)), hW.prog h2 h3⟩
        have HRHAS : Hid (∀ W, Two w B (some ⟨b, 0, none⟩) A' c' n (B + 1) A2 c2 W zs zs → Calls Try.prog 14 #[.slice A2 l c2, .int .i64 n, .int .i64 t] W fun e w' => e = .returned (.bool (hasP zs n t)) ∧ Step w B (some ⟨b, 0, none⟩) A' c' n (B + 1) A2 c2 zs W w') := Lib.hid fun W hW =>
          (rhas_any A2 l c2 _ zs n t HLN.out W (hW.own.held_n HLN.out).2.2).mono fun e w' ⟨h1, h2⟩ => ⟨h1, by subst h2; exact Only.refl _ _, by subst h2; exact hW⟩
        have HALL : Hid (∀ W, Two w B (some ⟨b, 0, none⟩) A' c' n (B + 1) A2 c2 W zs zs → Calls Try.prog 16 #[.pointer (some ⟨b, 0, none⟩)] W fun e w' => ∃ A6 c6, e = .returned (.slice A6 l c6) ∧ Own w' W.heap.size A6 c6 zs ∧ Step w B (some ⟨b, 0, none⟩) A' c' n (B + 1) A2 c2 zs W w') := Lib.hid fun W hW =>
          (all_n b A' c' l zs W hW.lk.memo.mem HLN.out).mono fun e w' ⟨A6, c6, h1, h2, h3⟩ => ⟨A6, c6, h1, h2, h3.mono (fun _ _ h => h.elim), hW.keep h3⟩
        have HSAME : Hid (∀ W base6 A6 c6, Two w B (some ⟨b, 0, none⟩) A' c' n (B + 1) A2 c2 W zs zs → Own W base6 A6 c6 zs → Calls Try.prog 15 #[.slice A6 l c6, .slice A2 l c2] W fun e w' => e = .returned (.bool true) ∧ Step w B (some ⟨b, 0, none⟩) A' c' n (B + 1) A2 c2 zs W w') := Lib.hid fun W base6 A6 c6 hW h6 =>
          (same_n A6 A2 c6 c2 l zs zs W (h6.held_n HLN.out) (hW.own.held_n HLN.out) (by omega)).mono fun e w' ⟨h1, h2⟩ => ⟨by rw [h1]; simp, h2.mono (fun _ _ h => h.elim), hW.keep h2⟩
        have N12 := Lib.hid (show ¬ Those (some ⟨b, 0, none⟩) A' A2 B wr.heap.size from fun h => by have := HG.out _ h; omega)
        have N13 := Lib.hid (show ¬ Those (some ⟨b, 0, none⟩) A' A2 B (wr.heap.size + 1) from fun h => by have := HG.out _ h; omega)
        have N14 := Lib.hid (show ¬ Those (some ⟨b, 0, none⟩) A' A2 B (wr.heap.size + 1 + 1) from fun h => by have := HG.out _ h; omega)
        have HM12 := Lib.hid HTW
        generalize hasP zs n t = hq at *
        have d1 : W.cell? ⟨wr.heap.size, 1, none⟩ = some (.int .i64 t) := R12.cell_ (i := 1) rfl
        have dB : W.cell? ⟨B, 0, none⟩ = some (.int .i64 n) := HTW.lk.map.cell_ (i := 0) rfl
        have d30 : W.cell? ⟨wr.heap.size + 1, 0, none⟩ = some (.int .i64 k1) := R13.cell_ (i := 0) rfl
        have d31 : W.cell? ⟨wr.heap.size + 1, 1, none⟩ = some (.int .i64 x1) := R13.cell_ (i := 1) rfl
        have d32 : W.cell? ⟨wr.heap.size + 1, 2, none⟩ = some (.int .u32 x2) := R13.cell_ (i := 2) rfl
        have d33 : W.cell? ⟨wr.heap.size + 1, 3, none⟩ = some (.int .u32 x3) := R13.cell_ (i := 3) rfl
        have d34 : W.cell? ⟨wr.heap.size + 1, 4, none⟩ = some (.int .u32 x4) := R13.cell_ (i := 4) rfl
        have d40 : W.cell? ⟨wr.heap.size + 1 + 1, 0, none⟩ = some (.int .i64 k1) := R14.cell_ (i := 0) rfl
        have d41 : W.cell? ⟨wr.heap.size + 1 + 1, 1, none⟩ = some (.int .i64 x1) := R14.cell_ (i := 1) rfl
        have d42 : W.cell? ⟨wr.heap.size + 1 + 1, 2, none⟩ = some (.int .u32 x2) := R14.cell_ (i := 2) rfl
        have d43 : W.cell? ⟨wr.heap.size + 1 + 1, 3, none⟩ = some (.int .u32 x3) := R14.cell_ (i := 3) rfl
        have d44 : W.cell? ⟨wr.heap.size + 1 + 1, 4, none⟩ = some (.int .u32 x4) := R14.cell_ (i := 4) rfl
        clear R12 R13 R14 HTW HTR g0 g1 HG HG0 hpl HC
        generalize wr.heap.size = g at *
        have HTW0 : Hid (Two w B (some ⟨b, 0, none⟩) A' c' n (B + 1) A2 c2 W.drew zs zs) := Lib.hid (HM12.out.keep (Only.refl _ _).drew)
        go_region_held3 (fun w' => w'.cell? ⟨g, 1, none⟩ = some (.int .i64 t) ∧ w'.cell? ⟨B, 0, none⟩ = some (.int .i64 n) ∧ w'.cell? ⟨g + 1, 0, none⟩ = some (.int .i64 k1) ∧ w'.cell? ⟨g + 1, 1, none⟩ = some (.int .i64 x1) ∧ w'.cell? ⟨g + 1, 2, none⟩ = some (.int .u32 x2) ∧ w'.cell? ⟨g + 1, 3, none⟩ = some (.int .u32 x3) ∧ w'.cell? ⟨g + 1, 4, none⟩ = some (.int .u32 x4) ∧ w'.cell? ⟨g + 1 + 1, 0, none⟩ = some (.int .i64 k1) ∧ w'.cell? ⟨g + 1 + 1, 1, none⟩ = some (.int .i64 x1) ∧ w'.cell? ⟨g + 1 + 1, 2, none⟩ = some (.int .u32 x2) ∧ w'.cell? ⟨g + 1 + 1, 3, none⟩ = some (.int .u32 x3) ∧ w'.cell? ⟨g + 1 + 1, 4, none⟩ = some (.int .u32 x4) ∧ Two w B (some ⟨b, 0, none⟩) A' c' n (B + 1) A2 c2 w' zs zs)
          (first
            | exact ⟨d1, dB, d30, d31, d32, d33, d34, d40, d41, d42, d43, d44, HTW0.out⟩
            | (go_keep; done)
            | (go_split_ands
               refine ⟨?_, ?_, ?_, ?_, ?_, ?_, ?_, ?_, ?_, ?_, ?_, ?_, ?_⟩
               all_goals first
                 | exact hO.2
                 | exact hO.2.lk.map.cell_ (i := 0) rfl
                 | (rw [hO.1.cell (World.block_lt_of_cell? _ _ (by assumption)) N12.out]; assumption)
                 | (rw [hO.1.cell (World.block_lt_of_cell? _ _ (by assumption)) N13.out]; assumption)
                 | (rw [hO.1.cell (World.block_lt_of_cell? _ _ (by assumption)) N14.out]; assumption)))
          ((first
            | (go_at_call 13; refine (HHAS.out _ (by go_split_ands; assumption)).mono ?_; rintro e w' ⟨rfl, hO⟩)
            | (go_at_call 14; refine (HRHAS.out _ (by go_split_ands; assumption)).mono ?_; rintro e w' ⟨rfl, hO⟩)
            | (go_at_call 16; refine (HALL.out _ (by go_split_ands; assumption)).mono ?_; intro e w' hF; obtain ⟨A6, c6, rfl, hOwn, hO⟩ := hF)
            | (go_at_call 15; refine (HSAME.out _ _ _ _ (by go_split_ands; assumption) hOwn).mono ?_; rintro e w' ⟨rfl, hO⟩)))
        rename_i hHH
        have HTF := Lib.hid hHH.2.2.2.2.2.2.2.2.2.2.2.2
        clear hHH hO hOwn d1 dB d30 d31 d32 d33 d34 d40 d41 d42 d43 d44 HHAS HRHAS HALL HSAME N12 N13 N14 HM12 HTW0
        go_wp2
        exact ⟨⟨k + 1, by omega, by go_num, zs, HLN.out, HTF.out⟩, by simp [intOf]; omega⟩
      · by_cases hk1 : kk = 1
        · subst hk1
          go_wp2_with fail
          have e0 := (((Only.refl Nil wr).alloc (Obj.cells #[.int .i64 1, .int .i64 t] 33)).alloc (Obj.cells #[Value.int IntKind.i64 0, Value.int IntKind.i64 0, Value.int IntKind.u32 0, Value.int IntKind.u32 0, Value.int IntKind.u32 0] 36)).alloc (Obj.cells #[Value.int IntKind.i64 0, Value.int IntKind.i64 0, Value.int IntKind.u32 0, Value.int IntKind.u32 0, Value.int IntKind.u32 0] 36)
          refine (take_any (some ⟨b, 0, none⟩) A' c' ys n t _ (HTR.out.keep e0).lk.memo).mono ?_
          obtain ⟨k1, x1, x2, x3, x4, hv⟩ := takeVal_form ys n t
          rw [hv]
          have hln : (st ys (pc n t) 0).length = l := by rw [st_len]; exact HYS.out
          generalize hok : (hasP ys n t) = ok
          generalize hz : st ys (pc n t) 0 = zs at *
          have HV := Lib.hid hv
          have HOK := Lib.hid hok
          have HZ := Lib.hid hz
          have HLN := Lib.hid hln
          rintro e w3 ⟨rfl, hO, hM⟩
          have HT3 := Lib.hid ((HTR.out.keep e0).prog hO hM)
          have hfar : ∀ g, wr.heap.size ≤ g → ¬ At A' g := fun g hg h => by have := HTR.out.lt _ (.inr (.inl h)); omega
          have HR12 := Lib.hid ((((Row.new wr 33 #[.int .i64 1, .int .i64 t]).alloc (Obj.cells #[Value.int IntKind.i64 0, Value.int IntKind.i64 0, Value.int IntKind.u32 0, Value.int IntKind.u32 0, Value.int IntKind.u32 0] 36)).alloc (Obj.cells #[Value.int IntKind.i64 0, Value.int IntKind.i64 0, Value.int IntKind.u32 0, Value.int IntKind.u32 0, Value.int IntKind.u32 0] 36)).only hO (hfar _ (by omega)))
          have HR13 := Lib.hid (((Row.new2 wr (Obj.cells #[.int .i64 1, .int .i64 t] 33) 36 #[Value.int IntKind.i64 0, Value.int IntKind.i64 0, Value.int IntKind.u32 0, Value.int IntKind.u32 0, Value.int IntKind.u32 0]).alloc (Obj.cells #[Value.int IntKind.i64 0, Value.int IntKind.i64 0, Value.int IntKind.u32 0, Value.int IntKind.u32 0, Value.int IntKind.u32 0] 36)).only hO (hfar _ (by omega)))
          have HR14 : Hid (Row w3 (wr.heap.size + 1 + 1) 36 #[Value.int IntKind.i64 0, Value.int IntKind.i64 0, Value.int IntKind.u32 0, Value.int IntKind.u32 0, Value.int IntKind.u32 0]) := Lib.hid (by
            refine Row.only ?_ hO (hfar _ (by omega))
            simpa using Row.new2 (wr.alloc (Obj.cells #[.int .i64 1, .int .i64 t] 33)) (Obj.cells #[Value.int IntKind.i64 0, Value.int IntKind.i64 0, Value.int IntKind.u32 0, Value.int IntKind.u32 0, Value.int IntKind.u32 0] 36) 36 #[Value.int IntKind.i64 0, Value.int IntKind.i64 0, Value.int IntKind.u32 0, Value.int IntKind.u32 0, Value.int IntKind.u32 0])
          have c12 : w3.cell? ⟨wr.heap.size, 1, none⟩ = some (.int .i64 t) := HR12.out.cell_ (i := 1) rfl
          have c130 : w3.cell? ⟨wr.heap.size + 1, 0, none⟩ = some (.int .i64 0) := HR13.out.cell_ (i := 0) rfl
          have c131 : w3.cell? ⟨wr.heap.size + 1, 1, none⟩ = some (.int .i64 0) := HR13.out.cell_ (i := 1) rfl
          have c132 : w3.cell? ⟨wr.heap.size + 1, 2, none⟩ = some (.int .u32 0) := HR13.out.cell_ (i := 2) rfl
          have c133 : w3.cell? ⟨wr.heap.size + 1, 3, none⟩ = some (.int .u32 0) := HR13.out.cell_ (i := 3) rfl
          have c134 : w3.cell? ⟨wr.heap.size + 1, 4, none⟩ = some (.int .u32 0) := HR13.out.cell_ (i := 4) rfl
          have f130 : w3.frozen? ⟨wr.heap.size + 1, 0, none⟩ = false := HR13.out.frozen 0
          have f131 : w3.frozen? ⟨wr.heap.size + 1, 1, none⟩ = false := HR13.out.frozen 1
          have f132 : w3.frozen? ⟨wr.heap.size + 1, 2, none⟩ = false := HR13.out.frozen 2
          have f133 : w3.frozen? ⟨wr.heap.size + 1, 3, none⟩ = false := HR13.out.frozen 3
          have f134 : w3.frozen? ⟨wr.heap.size + 1, 4, none⟩ = false := HR13.out.frozen 4
          have HG := Lib.hid (fun j (hj : Those (some ⟨b, 0, none⟩) A' A2 B j) => HTR.out.lt j hj)
          have HG0 := Lib.hid (show w.heap.size ≤ wr.heap.size from HTR.out.lk.only.size)
          clear hO hM hv hok hz hln hfar m0 m3 l0 e0
          go_wp2_with fail
          have HT4 := HT3.out.five (g := wr.heap.size + 1) (fun j hj => by have := HG.out j hj; omega) (by have := HG0.out; omega) (.int .i64 k1) (.int .i64 x1) (.int .u32 x2) (.int .u32 x3) (.int .u32 x4)
          refine (rtake_any (B + 1) A2 l c2 ys n t _ HT4.own HYS.out).mono ?_
          rw [HV.out, HOK.out, HZ.out]
          rintro e w4 ⟨rfl, hO, hW⟩
          have hfar : ∀ g, wr.heap.size ≤ g → ¬ At A2 g := fun g hg h => by have := HG.out _ (.inr (.inr (.inl h))); omega
          have HT5 := Lib.hid (HT4.answ hO hW)
          have HS12 := Lib.hid ((five_far (g := wr.heap.size + 1) HR12.out (by omega) (.int .i64 k1) (.int .i64 x1) (.int .u32 x2) (.int .u32 x3) (.int .u32 x4)).only hO (hfar _ (by omega)))
          have HS13 := Lib.hid ((five HR13.out (.int .i64 k1) (.int .i64 x1) (.int .u32 x2) (.int .u32 x3) (.int .u32 x4)).only hO (hfar _ (by omega)))
          have HS14 := Lib.hid ((five_far (g := wr.heap.size + 1) HR14.out (by omega) (.int .i64 k1) (.int .i64 x1) (.int .u32 x2) (.int .u32 x3) (.int .u32 x4)).only hO (hfar _ (by omega)))
          have c140 : w4.cell? ⟨wr.heap.size + 1 + 1, 0, none⟩ = some (.int .i64 0) := HS14.out.cell_ (i := 0) rfl
          have c141 : w4.cell? ⟨wr.heap.size + 1 + 1, 1, none⟩ = some (.int .i64 0) := HS14.out.cell_ (i := 1) rfl
          have c142 : w4.cell? ⟨wr.heap.size + 1 + 1, 2, none⟩ = some (.int .u32 0) := HS14.out.cell_ (i := 2) rfl
          have c143 : w4.cell? ⟨wr.heap.size + 1 + 1, 3, none⟩ = some (.int .u32 0) := HS14.out.cell_ (i := 3) rfl
          have c144 : w4.cell? ⟨wr.heap.size + 1 + 1, 4, none⟩ = some (.int .u32 0) := HS14.out.cell_ (i := 4) rfl
          have f140 : w4.frozen? ⟨wr.heap.size + 1 + 1, 0, none⟩ = false := HS14.out.frozen 0
          have f141 : w4.frozen? ⟨wr.heap.size + 1 + 1, 1, none⟩ = false := HS14.out.frozen 1
          have f142 : w4.frozen? ⟨wr.heap.size + 1 + 1, 2, none⟩ = false := HS14.out.frozen 2
          have f143 : w4.frozen? ⟨wr.heap.size + 1 + 1, 3, none⟩ = false := HS14.out.frozen 3
          have f144 : w4.frozen? ⟨wr.heap.size + 1 + 1, 4, none⟩ = false := HS14.out.frozen 4
          clear hO hW hfar HT4 c12 c130 c131 c132 c133 c134 f130 f131 f132 f133 f134
          go_wp2_with fail
          have HTW := HT5.out.five (g := wr.heap.size + 1 + 1) (fun j hj => by have := HG.out j hj; omega) (by have := HG0.out; omega) (.int .i64 k1) (.int .i64 x1) (.int .u32 x2) (.int .u32 x3) (.int .u32 x4)
          have R12 := five_far (g := wr.heap.size + 1 + 1) HS12.out (by omega) (.int .i64 k1) (.int .i64 x1) (.int .u32 x2) (.int .u32 x3) (.int .u32 x4)
          have R13 := five_far (g := wr.heap.size + 1 + 1) HS13.out (by omega) (.int .i64 k1) (.int .i64 x1) (.int .u32 x2) (.int .u32 x3) (.int .u32 x4)
          have R14 := five HS14.out (.int .i64 k1) (.int .i64 x1) (.int .u32 x2) (.int .u32 x3) (.int .u32 x4)
          clear HT5 HS12 HS13 HS14 HT3 HR12 HR13 HR14 c140 c141 c142 c143 c144 f140 f141 f142 f143 f144
          generalize (((((w4.setCell ⟨wr.heap.size + 1 + 1, 0, none⟩ (.int .i64 k1)).setCell ⟨wr.heap.size + 1 + 1, 1, none⟩ (.int .i64 x1)).setCell ⟨wr.heap.size + 1 + 1, 2, none⟩ (.int .u32 x2)).setCell ⟨wr.heap.size + 1 + 1, 3, none⟩ (.int .u32 x3)).setCell ⟨wr.heap.size + 1 + 1, 4, none⟩ (.int .u32 x4)) = W at *
          have HHAS : Hid (∀ W, Two w B (some ⟨b, 0, none⟩) A' c' n (B + 1) A2 c2 W zs zs → Calls Try.prog 13 #[.pointer (some ⟨b, 0, none⟩), .agg #[.int .i64 n], .int .i64 t] W fun e w' => e = .returned (.bool (hasP zs n t)) ∧ Step w B (some ⟨b, 0, none⟩) A' c' n (B + 1) A2 c2 zs W w') := Lib.hid fun W hW =>
            (has_any (some ⟨b, 0, none⟩) A' c' zs n t W hW.lk.memo).mono fun e w' ⟨h1, h2, h3⟩ => ⟨h1, h2.mono (fun _ _ h => .inr (.inl h)), hW.prog h2 h3⟩
          have HRHAS : Hid (∀ W, Two w B (some ⟨b, 0, none⟩) A' c' n (B + 1) A2 c2 W zs zs → Calls Try.prog 14 #[.slice A2 l c2, .int .i64 n, .int .i64 t] W fun e w' => e = .returned (.bool (hasP zs n t)) ∧ Step w B (some ⟨b, 0, none⟩) A' c' n (B + 1) A2 c2 zs W w') := Lib.hid fun W hW =>
            (rhas_any A2 l c2 _ zs n t HLN.out W (hW.own.held_n HLN.out).2.2).mono fun e w' ⟨h1, h2⟩ => ⟨h1, by subst h2; exact Only.refl _ _, by subst h2; exact hW⟩
          have HALL : Hid (∀ W, Two w B (some ⟨b, 0, none⟩) A' c' n (B + 1) A2 c2 W zs zs → Calls Try.prog 16 #[.pointer (some ⟨b, 0, none⟩)] W fun e w' => ∃ A6 c6, e = .returned (.slice A6 l c6) ∧ Own w' W.heap.size A6 c6 zs ∧ Step w B (some ⟨b, 0, none⟩) A' c' n (B + 1) A2 c2 zs W w') := Lib.hid fun W hW =>
            (all_n b A' c' l zs W hW.lk.memo.mem HLN.out).mono fun e w' ⟨A6, c6, h1, h2, h3⟩ => ⟨A6, c6, h1, h2, h3.mono (fun _ _ h => h.elim), hW.keep h3⟩
          have HSAME : Hid (∀ W base6 A6 c6, Two w B (some ⟨b, 0, none⟩) A' c' n (B + 1) A2 c2 W zs zs → Own W base6 A6 c6 zs → Calls Try.prog 15 #[.slice A6 l c6, .slice A2 l c2] W fun e w' => e = .returned (.bool true) ∧ Step w B (some ⟨b, 0, none⟩) A' c' n (B + 1) A2 c2 zs W w') := Lib.hid fun W base6 A6 c6 hW h6 =>
            (same_n A6 A2 c6 c2 l zs zs W (h6.held_n HLN.out) (hW.own.held_n HLN.out) (by omega)).mono fun e w' ⟨h1, h2⟩ => ⟨by rw [h1]; simp, h2.mono (fun _ _ h => h.elim), hW.keep h2⟩
          have N12 := Lib.hid (show ¬ Those (some ⟨b, 0, none⟩) A' A2 B wr.heap.size from fun h => by have := HG.out _ h; omega)
          have N13 := Lib.hid (show ¬ Those (some ⟨b, 0, none⟩) A' A2 B (wr.heap.size + 1) from fun h => by have := HG.out _ h; omega)
          have N14 := Lib.hid (show ¬ Those (some ⟨b, 0, none⟩) A' A2 B (wr.heap.size + 1 + 1) from fun h => by have := HG.out _ h; omega)
          have HM12 := Lib.hid HTW
          generalize hasP zs n t = hq at *
          have d1 : W.cell? ⟨wr.heap.size, 1, none⟩ = some (.int .i64 t) := R12.cell_ (i := 1) rfl
          have dB : W.cell? ⟨B, 0, none⟩ = some (.int .i64 n) := HTW.lk.map.cell_ (i := 0) rfl
          have d30 : W.cell? ⟨wr.heap.size + 1, 0, none⟩ = some (.int .i64 k1) := R13.cell_ (i := 0) rfl
          have d31 : W.cell? ⟨wr.heap.size + 1, 1, none⟩ = some (.int .i64 x1) := R13.cell_ (i := 1) rfl
          have d32 : W.cell? ⟨wr.heap.size + 1, 2, none⟩ = some (.int .u32 x2) := R13.cell_ (i := 2) rfl
          have d33 : W.cell? ⟨wr.heap.size + 1, 3, none⟩ = some (.int .u32 x3) := R13.cell_ (i := 3) rfl
          have d34 : W.cell? ⟨wr.heap.size + 1, 4, none⟩ = some (.int .u32 x4) := R13.cell_ (i := 4) rfl
          have d40 : W.cell? ⟨wr.heap.size + 1 + 1, 0, none⟩ = some (.int .i64 k1) := R14.cell_ (i := 0) rfl
          have d41 : W.cell? ⟨wr.heap.size + 1 + 1, 1, none⟩ = some (.int .i64 x1) := R14.cell_ (i := 1) rfl
          have d42 : W.cell? ⟨wr.heap.size + 1 + 1, 2, none⟩ = some (.int .u32 x2) := R14.cell_ (i := 2) rfl
          have d43 : W.cell? ⟨wr.heap.size + 1 + 1, 3, none⟩ = some (.int .u32 x3) := R14.cell_ (i := 3) rfl
          have d44 : W.cell? ⟨wr.heap.size + 1 + 1, 4, none⟩ = some (.int .u32 x4) := R14.cell_ (i := 4) rfl
          clear R12 R13 R14 HTW HTR g0 g1 HG HG0 hpl HC
          generalize wr.heap.size = g at *
          have HTW0 : Hid (Two w B (some ⟨b, 0, none⟩) A' c' n (B + 1) A2 c2 W.drew zs zs) := Lib.hid (HM12.out.keep (Only.refl _ _).drew)
          go_region_held3 (fun w' => w'.cell? ⟨g, 1, none⟩ = some (.int .i64 t) ∧ w'.cell? ⟨B, 0, none⟩ = some (.int .i64 n) ∧ w'.cell? ⟨g + 1, 0, none⟩ = some (.int .i64 k1) ∧ w'.cell? ⟨g + 1, 1, none⟩ = some (.int .i64 x1) ∧ w'.cell? ⟨g + 1, 2, none⟩ = some (.int .u32 x2) ∧ w'.cell? ⟨g + 1, 3, none⟩ = some (.int .u32 x3) ∧ w'.cell? ⟨g + 1, 4, none⟩ = some (.int .u32 x4) ∧ w'.cell? ⟨g + 1 + 1, 0, none⟩ = some (.int .i64 k1) ∧ w'.cell? ⟨g + 1 + 1, 1, none⟩ = some (.int .i64 x1) ∧ w'.cell? ⟨g + 1 + 1, 2, none⟩ = some (.int .u32 x2) ∧ w'.cell? ⟨g + 1 + 1, 3, none⟩ = some (.int .u32 x3) ∧ w'.cell? ⟨g + 1 + 1, 4, none⟩ = some (.int .u32 x4) ∧ Two w B (some ⟨b, 0, none⟩) A' c' n (B + 1) A2 c2 w' zs zs)
            (first
              | exact ⟨d1, dB, d30, d31, d32, d33, d34, d40, d41, d42, d43, d44, HTW0.out⟩
              | (go_keep; done)
              | (go_split_ands
                 refine ⟨?_, ?_, ?_, ?_, ?_, ?_, ?_, ?_, ?_, ?_, ?_, ?_, ?_⟩
                 all_goals first
                   | exact hO.2
                   | exact hO.2.lk.map.cell_ (i := 0) rfl
                   | (rw [hO.1.cell (World.block_lt_of_cell? _ _ (by assumption)) N12.out]; assumption)
                   | (rw [hO.1.cell (World.block_lt_of_cell? _ _ (by assumption)) N13.out]; assumption)
                   | (rw [hO.1.cell (World.block_lt_of_cell? _ _ (by assumption)) N14.out]; assumption)))
            ((first
              | (go_at_call 13; refine (HHAS.out _ (by go_split_ands; assumption)).mono ?_; rintro e w' ⟨rfl, hO⟩)
              | (go_at_call 14; refine (HRHAS.out _ (by go_split_ands; assumption)).mono ?_; rintro e w' ⟨rfl, hO⟩)
              | (go_at_call 16; refine (HALL.out _ (by go_split_ands; assumption)).mono ?_; intro e w' hF; obtain ⟨A6, c6, rfl, hOwn, hO⟩ := hF)
              | (go_at_call 15; refine (HSAME.out _ _ _ _ (by go_split_ands; assumption) hOwn).mono ?_; rintro e w' ⟨rfl, hO⟩)))
          rename_i hHH
          have HTF := Lib.hid hHH.2.2.2.2.2.2.2.2.2.2.2.2
          clear hHH hO hOwn d1 dB d30 d31 d32 d33 d34 d40 d41 d42 d43 d44 HHAS HRHAS HALL HSAME N12 N13 N14 HM12 HTW0
          go_wp2
          exact ⟨⟨k + 1, by omega, by go_num, zs, HLN.out, HTF.out⟩, by simp [intOf]; omega⟩
        · have hk0' : (kk == 0) = false := beq_eq_false_iff_ne.2 hk0
          have hk1' : (kk == 1) = false := beq_eq_false_iff_ne.2 hk1
          go_wp2_with fail
          have e0 := (((Only.refl Nil wr).alloc (Obj.cells #[.int .i64 kk, .int .i64 t] 33)).alloc (Obj.cells #[Value.int IntKind.i64 0, Value.int IntKind.i64 0, Value.int IntKind.u32 0, Value.int IntKind.u32 0, Value.int IntKind.u32 0] 36)).alloc (Obj.cells #[Value.int IntKind.i64 0, Value.int IntKind.i64 0, Value.int IntKind.u32 0, Value.int IntKind.u32 0, Value.int IntKind.u32 0] 36)
          have HTW := HTR.out.keep e0
          have R12 := ((Row.new wr 33 #[.int .i64 kk, .int .i64 t]).alloc (Obj.cells #[Value.int IntKind.i64 0, Value.int IntKind.i64 0, Value.int IntKind.u32 0, Value.int IntKind.u32 0, Value.int IntKind.u32 0] 36)).alloc (Obj.cells #[Value.int IntKind.i64 0, Value.int IntKind.i64 0, Value.int IntKind.u32 0, Value.int IntKind.u32 0, Value.int IntKind.u32 0] 36)
          have R13 := (Row.new2 wr (Obj.cells #[.int .i64 kk, .int .i64 t] 33) 36 #[Value.int IntKind.i64 0, Value.int IntKind.i64 0, Value.int IntKind.u32 0, Value.int IntKind.u32 0, Value.int IntKind.u32 0]).alloc (Obj.cells #[Value.int IntKind.i64 0, Value.int IntKind.i64 0, Value.int IntKind.u32 0, Value.int IntKind.u32 0, Value.int IntKind.u32 0] 36)
          have R14 : Row ((((wr.alloc (Obj.cells #[.int .i64 kk, .int .i64 t] 33)).alloc (Obj.cells #[Value.int IntKind.i64 0, Value.int IntKind.i64 0, Value.int IntKind.u32 0, Value.int IntKind.u32 0, Value.int IntKind.u32 0] 36)).alloc (Obj.cells #[Value.int IntKind.i64 0, Value.int IntKind.i64 0, Value.int IntKind.u32 0, Value.int IntKind.u32 0, Value.int IntKind.u32 0] 36))) (wr.heap.size + 1 + 1) 36 #[Value.int IntKind.i64 0, Value.int IntKind.i64 0, Value.int IntKind.u32 0, Value.int IntKind.u32 0, Value.int IntKind.u32 0] := by
            simpa using Row.new2 (wr.alloc (Obj.cells #[.int .i64 kk, .int .i64 t] 33)) (Obj.cells #[Value.int IntKind.i64 0, Value.int IntKind.i64 0, Value.int IntKind.u32 0, Value.int IntKind.u32 0, Value.int IntKind.u32 0] 36) 36 #[Value.int IntKind.i64 0, Value.int IntKind.i64 0, Value.int IntKind.u32 0, Value.int IntKind.u32 0, Value.int IntKind.u32 0]
          have HG := Lib.hid (fun j (hj : Those (some ⟨b, 0, none⟩) A' A2 B j) => HTR.out.lt j hj)
          have HG0 := Lib.hid (show w.heap.size ≤ wr.heap.size from HTR.out.lk.only.size)
          clear m0 m3 l0 e0
          generalize ((wr.alloc (Obj.cells #[.int .i64 kk, .int .i64 t] 33)).alloc (Obj.cells #[Value.int IntKind.i64 0, Value.int IntKind.i64 0, Value.int IntKind.u32 0, Value.int IntKind.u32 0, Value.int IntKind.u32 0] 36)).alloc (Obj.cells #[Value.int IntKind.i64 0, Value.int IntKind.i64 0, Value.int IntKind.u32 0, Value.int IntKind.u32 0, Value.int IntKind.u32 0] 36) = W at *
          have HHAS : Hid (∀ W, Two w B (some ⟨b, 0, none⟩) A' c' n (B + 1) A2 c2 W ys ys → Calls Try.prog 13 #[.pointer (some ⟨b, 0, none⟩), .agg #[.int .i64 n], .int .i64 t] W fun e w' => e = .returned (.bool (hasP ys n t)) ∧ Step w B (some ⟨b, 0, none⟩) A' c' n (B + 1) A2 c2 ys W w') := Lib.hid fun W hW =>
            (has_any (some ⟨b, 0, none⟩) A' c' ys n t W hW.lk.memo).mono fun e w' ⟨h1, h2, h3⟩ => ⟨h1, h2.mono (fun _ _ h => .inr (.inl h)), hW.prog h2 h3⟩
          have HRHAS : Hid (∀ W, Two w B (some ⟨b, 0, none⟩) A' c' n (B + 1) A2 c2 W ys ys → Calls Try.prog 14 #[.slice A2 l c2, .int .i64 n, .int .i64 t] W fun e w' => e = .returned (.bool (hasP ys n t)) ∧ Step w B (some ⟨b, 0, none⟩) A' c' n (B + 1) A2 c2 ys W w') := Lib.hid fun W hW =>
            (rhas_any A2 l c2 _ ys n t HYS.out W (hW.own.held_n HYS.out).2.2).mono fun e w' ⟨h1, h2⟩ => ⟨h1, by subst h2; exact Only.refl _ _, by subst h2; exact hW⟩
          have HALL : Hid (∀ W, Two w B (some ⟨b, 0, none⟩) A' c' n (B + 1) A2 c2 W ys ys → Calls Try.prog 16 #[.pointer (some ⟨b, 0, none⟩)] W fun e w' => ∃ A6 c6, e = .returned (.slice A6 l c6) ∧ Own w' W.heap.size A6 c6 ys ∧ Step w B (some ⟨b, 0, none⟩) A' c' n (B + 1) A2 c2 ys W w') := Lib.hid fun W hW =>
            (all_n b A' c' l ys W hW.lk.memo.mem HYS.out).mono fun e w' ⟨A6, c6, h1, h2, h3⟩ => ⟨A6, c6, h1, h2, h3.mono (fun _ _ h => h.elim), hW.keep h3⟩
          have HSAME : Hid (∀ W base6 A6 c6, Two w B (some ⟨b, 0, none⟩) A' c' n (B + 1) A2 c2 W ys ys → Own W base6 A6 c6 ys → Calls Try.prog 15 #[.slice A6 l c6, .slice A2 l c2] W fun e w' => e = .returned (.bool true) ∧ Step w B (some ⟨b, 0, none⟩) A' c' n (B + 1) A2 c2 ys W w') := Lib.hid fun W base6 A6 c6 hW h6 =>
            (same_n A6 A2 c6 c2 l ys ys W (h6.held_n HYS.out) (hW.own.held_n HYS.out) (by omega)).mono fun e w' ⟨h1, h2⟩ => ⟨by rw [h1]; simp, h2.mono (fun _ _ h => h.elim), hW.keep h2⟩
          have N12 := Lib.hid (show ¬ Those (some ⟨b, 0, none⟩) A' A2 B wr.heap.size from fun h => by have := HG.out _ h; omega)
          have N13 := Lib.hid (show ¬ Those (some ⟨b, 0, none⟩) A' A2 B (wr.heap.size + 1) from fun h => by have := HG.out _ h; omega)
          have N14 := Lib.hid (show ¬ Those (some ⟨b, 0, none⟩) A' A2 B (wr.heap.size + 1 + 1) from fun h => by have := HG.out _ h; omega)
          have HM12 := Lib.hid HTW
          generalize hasP ys n t = hq at *
          have d1 : W.cell? ⟨wr.heap.size, 1, none⟩ = some (.int .i64 t) := R12.cell_ (i := 1) rfl
          have dB : W.cell? ⟨B, 0, none⟩ = some (.int .i64 n) := HTW.lk.map.cell_ (i := 0) rfl
          have d30 : W.cell? ⟨wr.heap.size + 1, 0, none⟩ = some (.int .i64 0) := R13.cell_ (i := 0) rfl
          have d31 : W.cell? ⟨wr.heap.size + 1, 1, none⟩ = some (.int .i64 0) := R13.cell_ (i := 1) rfl
          have d32 : W.cell? ⟨wr.heap.size + 1, 2, none⟩ = some (.int .u32 0) := R13.cell_ (i := 2) rfl
          have d33 : W.cell? ⟨wr.heap.size + 1, 3, none⟩ = some (.int .u32 0) := R13.cell_ (i := 3) rfl
          have d34 : W.cell? ⟨wr.heap.size + 1, 4, none⟩ = some (.int .u32 0) := R13.cell_ (i := 4) rfl
          have d40 : W.cell? ⟨wr.heap.size + 1 + 1, 0, none⟩ = some (.int .i64 0) := R14.cell_ (i := 0) rfl
          have d41 : W.cell? ⟨wr.heap.size + 1 + 1, 1, none⟩ = some (.int .i64 0) := R14.cell_ (i := 1) rfl
          have d42 : W.cell? ⟨wr.heap.size + 1 + 1, 2, none⟩ = some (.int .u32 0) := R14.cell_ (i := 2) rfl
          have d43 : W.cell? ⟨wr.heap.size + 1 + 1, 3, none⟩ = some (.int .u32 0) := R14.cell_ (i := 3) rfl
          have d44 : W.cell? ⟨wr.heap.size + 1 + 1, 4, none⟩ = some (.int .u32 0) := R14.cell_ (i := 4) rfl
          clear R12 R13 R14 HTW HTR g0 g1 HG HG0 hpl HC
          generalize wr.heap.size = g at *
          have HTW0 : Hid (Two w B (some ⟨b, 0, none⟩) A' c' n (B + 1) A2 c2 W.drew ys ys) := Lib.hid (HM12.out.keep (Only.refl _ _).drew)
          go_region_held3 (fun w' => w'.cell? ⟨g, 1, none⟩ = some (.int .i64 t) ∧ w'.cell? ⟨B, 0, none⟩ = some (.int .i64 n) ∧ w'.cell? ⟨g + 1, 0, none⟩ = some (.int .i64 0) ∧ w'.cell? ⟨g + 1, 1, none⟩ = some (.int .i64 0) ∧ w'.cell? ⟨g + 1, 2, none⟩ = some (.int .u32 0) ∧ w'.cell? ⟨g + 1, 3, none⟩ = some (.int .u32 0) ∧ w'.cell? ⟨g + 1, 4, none⟩ = some (.int .u32 0) ∧ w'.cell? ⟨g + 1 + 1, 0, none⟩ = some (.int .i64 0) ∧ w'.cell? ⟨g + 1 + 1, 1, none⟩ = some (.int .i64 0) ∧ w'.cell? ⟨g + 1 + 1, 2, none⟩ = some (.int .u32 0) ∧ w'.cell? ⟨g + 1 + 1, 3, none⟩ = some (.int .u32 0) ∧ w'.cell? ⟨g + 1 + 1, 4, none⟩ = some (.int .u32 0) ∧ Two w B (some ⟨b, 0, none⟩) A' c' n (B + 1) A2 c2 w' ys ys)
            (first
              | exact ⟨d1, dB, d30, d31, d32, d33, d34, d40, d41, d42, d43, d44, HTW0.out⟩
              | (go_keep; done)
              | (go_split_ands
                 refine ⟨?_, ?_, ?_, ?_, ?_, ?_, ?_, ?_, ?_, ?_, ?_, ?_, ?_⟩
                 all_goals first
                   | exact hO.2
                   | exact hO.2.lk.map.cell_ (i := 0) rfl
                   | (rw [hO.1.cell (World.block_lt_of_cell? _ _ (by assumption)) N12.out]; assumption)
                   | (rw [hO.1.cell (World.block_lt_of_cell? _ _ (by assumption)) N13.out]; assumption)
                   | (rw [hO.1.cell (World.block_lt_of_cell? _ _ (by assumption)) N14.out]; assumption)))
            ((first
              | (go_at_call 13; refine (HHAS.out _ (by go_split_ands; assumption)).mono ?_; rintro e w' ⟨rfl, hO⟩)
              | (go_at_call 14; refine (HRHAS.out _ (by go_split_ands; assumption)).mono ?_; rintro e w' ⟨rfl, hO⟩)
              | (go_at_call 16; refine (HALL.out _ (by go_split_ands; assumption)).mono ?_; intro e w' hF; obtain ⟨A6, c6, rfl, hOwn, hO⟩ := hF)
              | (go_at_call 15; refine (HSAME.out _ _ _ _ (by go_split_ands; assumption) hOwn).mono ?_; rintro e w' ⟨rfl, hO⟩)))
          rename_i hHH
          have HTF := Lib.hid hHH.2.2.2.2.2.2.2.2.2.2.2.2
          clear hHH hO hOwn d1 dB d30 d31 d32 d33 d34 d40 d41 d42 d43 d44 HHAS HRHAS HALL HSAME N12 N13 N14 HM12 HTW0
          go_wp2
          exact ⟨⟨k + 1, by omega, by go_num, ys, HYS.out, HTF.out⟩, by simp [intOf]; omega⟩
    · go_wp2_with fail
      refine (awake_any _).mono ?_
      rintro e w3 ⟨rfl, hO⟩
      have HO := Lib.hid (HTR.out.lk.only.trans hO)
      clear hO
      go_wp2
      go_ret
      exact ⟨rfl, HO.out⟩

theorem walk_parkPlays (a0 : Option Addr) (len0 cap0 : Nat) (z0 : List Int) (a1 : Int) (a2 : Option Addr) (len2 cap2 : Nat) (w : World) (w0 : IsRow .u32 w a0 len0 cap0 z0) (w1 : (Lit.int .i64 a1).wf = true) (w2 : IsOps w a2 len2) :
    Calls Try.prog 3 #[.slice a0 len0 cap0, .int .i64 a1, .slice a2 len2 cap2] w fun e w' => e = .returned (.bool true) ∧ Below w.heap.size w w' := by
  have fin : Calls Try.prog 3 #[.slice a0 len0 cap0, .int .i64 a1, .slice a2 len2 cap2] w fun e w' => e = .returned (.bool true) ∧ Only Nil w w' := by
    by_cases h : len0 ≤ 1024 ∧ len2 ≤ 40
    · exact play_main a0 a2 len0 cap0 len2 cap2 a1 z0 w w0 w2 h.1 h.2
    · exact play_away a0 a2 len0 cap0 len2 cap2 a1 w (by omega)
  exact fin.mono fun _ _ ⟨he, hO⟩ => ⟨he, hO.below (Nat.le_refl _) (fun _ _ h => h)⟩
end Go.Proofs.Ytcdndaobdhbplaa
