import Derived.Test.YtkkldcggbekleaaGreatS31
import Derived.Test.YtkkldcggbekleaaGreatS32
import Derived.Test.YtkkldcggbekleaaGreatS46
import Derived.Test.YtkkldcggbekleaaGreatS41
set_option linter.unusedVariables false
set_option linter.unusedSimpArgs false
namespace Go.Proofs.YtkkldcggbekleaaGreat
open Go.RowKit
theorem RunR.asideR {w w' : World} {B base : Nat} {A : Option Addr} {l cp : Nat} {nv : Value} {r : LS} {g : Nat} {t : TypeId} {cs : Array Value} (h : RunR w B base A l cp nv r) (hg : Row w g t cs) (ho : Only (TurnB B A) w w') (h1 : t ≠ 46) (h2 : t ≠ 23) : Row w' g t cs :=
  hg.only ho (fun e => by
    rcases e with e | e
    · exact row_ne hg h.row h1 e
    · obtain ⟨cur, hc⟩ := own_tag h.own e
      exact h2 (hg.same hc).1)
theorem rwhats_1 {w : World} {B base : Nat} {A : Option Addr} {l cp : Nat} {nv : Value} {r : LS} (h : RunR w B base A l cp nv r) (x : Int) : Whats B A (w.alloc (.cells #[.int .i64 x] 3)) (.slice (some ⟨w.heap.size, 0, none⟩) 1 1) [x] := by
  have h8 := h.keep ((Only.refl Nil w).alloc (.cells #[.int .i64 x] 3))
  have hr := Row.new w 3 #[.int .i64 x]
  exact ⟨_, _, rfl, fun w' ho i y hi => ⟨w.heap.size, 0, rfl, by
    match i, hi with
    | 0, hi => cases hi; exact (h8.asideR hr ho (by decide) (by decide)).cell_ (i := 0) rfl
    | i + 1, hi => simp at hi⟩⟩
theorem rwhats_2 {w : World} {B base : Nat} {A : Option Addr} {l cp : Nat} {nv : Value} {r : LS} (h : RunR w B base A l cp nv r) (x z : Int) : Whats B A (w.alloc (.cells #[.int .i64 x, .int .i64 z] 3)) (.slice (some ⟨w.heap.size, 0, none⟩) 2 2) [x, z] := by
  have h8 := h.keep ((Only.refl Nil w).alloc (.cells #[.int .i64 x, .int .i64 z] 3))
  have hr := Row.new w 3 #[.int .i64 x, .int .i64 z]
  exact ⟨_, _, rfl, fun w' ho i y hi => ⟨w.heap.size, 0, rfl, by
    match i, hi with
    | 0, hi => cases hi; exact (h8.asideR hr ho (by decide) (by decide)).cell_ (i := 0) rfl
    | 1, hi => cases hi; exact (h8.asideR hr ho (by decide) (by decide)).cell_ (i := 1) rfl
    | i + 2, hi => simp at hi⟩⟩
theorem rqgive_run (B base : Nat) (A : Option Addr) (l cp : Nat) (nv : Value) (r : LS) (a : Int) (ok : Bool) (V : Value) (ls : List Int) (w : World) (h : RunR w B base A l cp nv r) (hl : r.ns.length ≤ 900) (hx : Words r.xs) (ha : 0 ≤ r.a ∧ r.a < 4294967296) (hw : Whats B A w V ls) (hm : ls.length ≤ 90) (hr0 : -1000 ≤ a) (hr1 : a ≤ 1000) :
    Calls Tryz.prog 29 #[Value.pointer (some ⟨B, 0, none⟩), .int .i64 a, .bool ok, V] w (DoneR B base A l cp w (.tuple #[]) (r.qGive a ok ls)) := by
  have hc := rgive_run B base A l cp nv r 0 a w h hl hx ha V ls hw hm hr0 hr1
  obtain ⟨r', d, hd⟩ : ∃ r' d, r.mxGive 0 a ls = (r', d) := ⟨_, _, rfl⟩
  rw [qGive_of hd]
  rw [hd] at hc
  have HC := Lib.hid hc
  obtain ⟨VA, vc, rfl, _⟩ := hw
  clear hc hd hx ha hm hr0 hr1 h hl
  cases d
  · rw [if_neg Bool.false_ne_true]
    go_enter Tryz.func29, Tryz.ntmps29
    go_wp2_with fail
    refine HC.out.mono ?_
    rintro e w1 ⟨rfl, hO, nv1, hP⟩
    have HO := Lib.hid hO
    have HP := Lib.hid hP
    clear hO hP
    go_wp2
    go_returns
    exact ⟨rfl, HO.out, nv1, HP.out⟩
  · rw [if_pos rfl]
    go_enter Tryz.func29, Tryz.ntmps29
    go_wp2_with fail
    refine HC.out.mono ?_
    rintro e w1 ⟨rfl, hO, nv1, hP⟩
    have HO := Lib.hid hO
    have HP := Lib.hid hP
    clear hO hP
    go_wp2_with fail
    refine (rend_run B base A l cp nv1 _ _ ok HP.out).mono ?_
    rintro e w2 ⟨rfl, hO, nv2, hP⟩
    have HO2 := Lib.hid (HO.out.trans hO)
    have HP2 := Lib.hid hP
    clear hO hP
    go_wp2
    go_returns
    exact ⟨rfl, HO2.out, nv2, HP2.out⟩
end Go.Proofs.YtkkldcggbekleaaGreat
set_option linter.unusedVariables false
set_option linter.unusedSimpArgs false
namespace Go.Proofs.YtkkldcggbekleaaGreat
open Go.RowKit
set_option maxRecDepth 100000 in
set_option maxHeartbeats 4000000 in
theorem fqr_e1 (B base : Nat) (A : Option Addr) (l cp : Nat) (nv : Value) (r : LS) (w : World) (h : RunR w B base A l cp nv r) (hl : r.ns.length ≤ 900) (hx : Words r.xs) (ha : 0 ≤ r.a ∧ r.a < 4294967296) (h1 : r.op = 1) (hh : 0 ≤ r.line ∧ r.line ≤ 4) :
    Calls Tryz.prog 10 #[Value.pointer (some ⟨B, 0, none⟩)] w (DoneR B base A l cp w (.tuple #[]) (r.qEnter 1)) := by
  obtain ⟨r', d, hd⟩ : ∃ r' d, r.mxEnter 0 1 = (r', d) := ⟨_, _, rfl⟩
  rw [qEnter_of hd]
  obtain ⟨RR, hRR⟩ : ∃ RR, (if d then r'.go 5 else r') = RR := ⟨_, rfl⟩
  rw [hRR]
  have HRR := Lib.hid hRR
  clear hRR
  have H1 := Lib.hid h1
  clear h1
  obtain ⟨ln, H2⟩ : ∃ ln, Hid (r.line = ln) := ⟨_, Lib.hid rfl⟩
  rw [H2.out] at hh
  obtain ⟨hh0, hh1⟩ := hh
  have q0 : decide ((0 : Int) ≤ ln) = true := by simp; omega
  have q4 : decide (ln ≤ (4 : Int)) = true := by simp; omega
  clear hh0 hh1
  have hc : ∀ W, RunR W B base A l cp nv r → Calls Tryz.prog 24 #[Value.pointer (some ⟨B, 0, none⟩), .int .i64 0, .int .i64 1] W (DoneR B base A l cp W (.bool d) r') := fun W hW => by
    have e := renter_run B base A l cp nv r 0 1 W hW hl hx ha
    rw [hd] at e
    exact e
  have HC := Lib.hid hc
  clear hc hd
  have HX := Lib.hid hx
  have HL := Lib.hid hl
  have HA := Lib.hid ha
  have HH := Lib.hid h
  clear h hl hx ha
  have c4 : w.cell? ⟨B, 4, none⟩ = some (.int .i64 (1)) := by rw [← H1.out]; exact HH.out.row.cell_ (i := 4) rfl
  have c5 : w.cell? ⟨B, 5, none⟩ = some (.int .i64 (ln)) := by rw [← H2.out]; exact HH.out.row.cell_ (i := 5) rfl
  go_enter Tryz.func10, Tryz.ntmps10
  go_upto_region 1 with (fail)
  refine wp_region_phase (n := 10) 9 (fun w => w.cell? ⟨B, 4, none⟩ = some (.int .i64 (1)) ∧ w.cell? ⟨B, 5, none⟩ = some (.int .i64 (ln))) rfl (by kernel_rfl) ⟨c4, c5⟩ (fun hHeld => ?_)
  have HP0 := Lib.hid (HH.out.keep (Only.refl Nil w).drew)
  have HO0 := Lib.hid ((Only.refl (TurnB B A) w).drew)
  clear HH c4 c5
  generalize w.drew = w2 at *
  refine mpa 0 rfl (.pointer (some ⟨B, 4, none⟩)) (fun w => ?_) ?_
  · go_simp
  (try simp only [Act.put, k1, k2, k3])
  refine mpa 1 rfl (.pointer (some ⟨B, 4, none⟩)) (fun w => ?_) ?_
  · go_simp
  (try simp only [Act.put, k1, k2, k3])
  refine mpa 2 rfl (.pointer (some ⟨B, 4, none⟩)) (fun w => ?_) ?_
  · go_simp
  (try simp only [Act.put, k1, k2, k3])
  refine mpt 3 rfl (.int .i64 (1)) (fun w hSw => ?_) ?_
  · (try dsimp only at hSw)
    go_split_ands
    go_simp
  (try simp only [Act.put, k1, k2, k3])
  refine mpa 4 rfl (.pointer (some ⟨B, 4, none⟩)) (fun w => ?_) ?_
  · go_simp
  (try simp only [Act.put, k1, k2, k3])
  refine mpa 5 rfl (.pointer (some ⟨B, 4, none⟩)) (fun w => ?_) ?_
  · go_simp
  (try simp only [Act.put, k1, k2, k3])
  refine mpa 6 rfl (.pointer (some ⟨B, 5, none⟩)) (fun w => ?_) ?_
  · go_simp
  (try simp only [Act.put, k1, k2, k3])
  refine mpt 7 rfl (.int .i64 (ln)) (fun w hSw => ?_) ?_
  · (try dsimp only at hSw)
    go_split_ands
    go_simp
  (try simp only [Act.put, k1, k2, k3])
  refine mpa 8 rfl (.int .i64 (1)) (fun w => ?_) ?_
  · go_simp
  (try simp only [Act.put, k1, k2, k3])
  refine mpc 9 rfl (by kernel_rfl) (by rfl) (fun K hK => ?_)
  go_simp
  refine hK.out _ _ (.inl (by kernel_rfl)) ?_
  clear hK K hHeld
  (try simp only [Act.put, k1, k2, k3])
  refine wpAnyP_done (by kernel_rfl) ?_ _
  go_wp2_with fail
  refine (HC.out _ HP0.out).mono ?_
  clear HC
  rintro e w3 ⟨rfl, hO, nv1, hP⟩
  have HO1 := Lib.hid (HO0.out.trans hO)
  have HP1 := Lib.hid hP
  clear hO hP HP0 HO0
  cases d
  · have eR := HRR.out
    rw [if_neg Bool.false_ne_true] at eR
    subst eR
    go_wp2
    go_returns
    exact ⟨rfl, HO1.out, nv1, HP1.out⟩
  · have eR := HRR.out
    rw [if_pos rfl] at eR
    subst eR
    have c5 : w3.cell? ⟨B, 5, none⟩ = some (.int .i64 (r'.line)) := HP1.out.row.cell_ (i := 5) rfl
    have f5 : w3.frozen? ⟨B, 5, none⟩ = false := HP1.out.row.frozen 5
    go_wp2
    clear c5 f5
    have HPZ := Lib.hid (HP1.out.setLine (5))
    have HOZ := Lib.hid (HO1.out.setCell (p := ⟨B, 5, none⟩) (.inr (.inl rfl)) (.int .i64 (5)))
    go_returns
    exact ⟨rfl, HOZ.out, nv1, HPZ.out⟩
set_option maxRecDepth 100000 in
set_option maxHeartbeats 4000000 in
theorem fqr_c5 (B base : Nat) (A : Option Addr) (l cp : Nat) (nv : Value) (r : LS) (w : World) (h : RunR w B base A l cp nv r) (hl : r.ns.length ≤ 900) (hx : Words r.xs) (ha : 0 ≤ r.a ∧ r.a < 4294967296) (h1 : r.op = 5) (h2 : r.line = 5) :
    Calls Tryz.prog 10 #[Value.pointer (some ⟨B, 0, none⟩)] w (DoneR B base A l cp w (.tuple #[]) ((r.doA 3 1 1 0).go 6)) := by
  have H1 := Lib.hid h1
  clear h1
  have H2 := Lib.hid h2
  clear h2
  have HX := Lib.hid hx
  have HL := Lib.hid hl
  have HA := Lib.hid ha
  have HH := Lib.hid h
  clear h hl hx ha
  have c4 : w.cell? ⟨B, 4, none⟩ = some (.int .i64 (5)) := by rw [← H1.out]; exact HH.out.row.cell_ (i := 4) rfl
  have c5 : w.cell? ⟨B, 5, none⟩ = some (.int .i64 (5)) := by rw [← H2.out]; exact HH.out.row.cell_ (i := 5) rfl
  go_enter Tryz.func10, Tryz.ntmps10
  go_upto_region 1 with (fail)
  refine wp_region_phase (n := 10) 9 (fun w => w.cell? ⟨B, 4, none⟩ = some (.int .i64 (5)) ∧ w.cell? ⟨B, 5, none⟩ = some (.int .i64 (5))) rfl (by kernel_rfl) ⟨c4, c5⟩ (fun hHeld => ?_)
  have HP0 := Lib.hid (HH.out.keep (Only.refl Nil w).drew)
  have HO0 := Lib.hid ((Only.refl (TurnB B A) w).drew)
  clear HH c4 c5
  generalize w.drew = w2 at *
  refine mpa 0 rfl (.pointer (some ⟨B, 4, none⟩)) (fun w => ?_) ?_
  · go_simp
  (try simp only [Act.put, k1, k2, k3])
  refine mpa 1 rfl (.pointer (some ⟨B, 4, none⟩)) (fun w => ?_) ?_
  · go_simp
  (try simp only [Act.put, k1, k2, k3])
  refine mpa 2 rfl (.pointer (some ⟨B, 4, none⟩)) (fun w => ?_) ?_
  · go_simp
  (try simp only [Act.put, k1, k2, k3])
  refine mpt 3 rfl (.int .i64 (5)) (fun w hSw => ?_) ?_
  · (try dsimp only at hSw)
    go_split_ands
    go_simp
  (try simp only [Act.put, k1, k2, k3])
  refine mpa 4 rfl (.pointer (some ⟨B, 4, none⟩)) (fun w => ?_) ?_
  · go_simp
  (try simp only [Act.put, k1, k2, k3])
  refine mpa 5 rfl (.pointer (some ⟨B, 4, none⟩)) (fun w => ?_) ?_
  · go_simp
  (try simp only [Act.put, k1, k2, k3])
  refine mpa 6 rfl (.pointer (some ⟨B, 5, none⟩)) (fun w => ?_) ?_
  · go_simp
  (try simp only [Act.put, k1, k2, k3])
  refine mpt 7 rfl (.int .i64 (5)) (fun w hSw => ?_) ?_
  · (try dsimp only at hSw)
    go_split_ands
    go_simp
  (try simp only [Act.put, k1, k2, k3])
  refine mpa 8 rfl (.int .i64 (5)) (fun w => ?_) ?_
  · go_simp
  (try simp only [Act.put, k1, k2, k3])
  refine mpc 9 rfl (by kernel_rfl) (by rfl) (fun K hK => ?_)
  go_simp
  refine hK.out _ _ (.inl (by kernel_rfl)) ?_
  clear hK K hHeld
  (try simp only [Act.put, k1, k2, k3])
  refine wpAnyP_done (by kernel_rfl) ?_ _
  go_wp2_with fail
  refine (radd_run B base A l cp nv r 1 1 _ HP0.out).mono ?_
  rintro e w1_ ⟨rfl, hO, nv1, hP⟩
  have HO1 := Lib.hid (HO0.out.trans hO)
  have HP1 := Lib.hid hP
  clear hO hP HP0 HO0
  have c5 : w1_.cell? ⟨B, 5, none⟩ = some (.int .i64 (r.line)) := HP1.out.row.cell_ (i := 5) rfl
  have f5 : w1_.frozen? ⟨B, 5, none⟩ = false := HP1.out.row.frozen 5
  go_wp2
  clear c5 f5
  have HPZ := Lib.hid (HP1.out.setLine (6))
  have HOZ := Lib.hid (HO1.out.setCell (p := ⟨B, 5, none⟩) (.inr (.inl rfl)) (.int .i64 (6)))
  go_returns
  exact ⟨rfl, HOZ.out, nv1, HPZ.out⟩
set_option maxRecDepth 100000 in
set_option maxHeartbeats 4000000 in
theorem fqr_g5_a (B base : Nat) (A : Option Addr) (l cp : Nat) (nv : Value) (r : LS) (w : World) (h : RunR w B base A l cp nv r) (hl : r.ns.length ≤ 900) (hx : Words r.xs) (ha : 0 ≤ r.a ∧ r.a < 4294967296) (h1 : r.op = 5) (hh : r.line < 0) :
    Calls Tryz.prog 10 #[Value.pointer (some ⟨B, 0, none⟩)] w (DoneR B base A l cp w (.tuple #[]) (r.qGive 6 true [4])) := by
  have H1 := Lib.hid h1
  clear h1
  obtain ⟨ln, H2⟩ : ∃ ln, Hid (r.line = ln) := ⟨_, Lib.hid rfl⟩
  rw [H2.out] at hh
  have q0 : decide ((0 : Int) ≤ ln) = false := by simp; omega
  have n5 : (ln == 5) = false := beq_eq_false_iff_ne.2 (by omega)
  clear hh
  have HX := Lib.hid hx
  have HL := Lib.hid hl
  have HA := Lib.hid ha
  have HH := Lib.hid h
  clear h hl hx ha
  have c4 : w.cell? ⟨B, 4, none⟩ = some (.int .i64 (5)) := by rw [← H1.out]; exact HH.out.row.cell_ (i := 4) rfl
  have c5 : w.cell? ⟨B, 5, none⟩ = some (.int .i64 (ln)) := by rw [← H2.out]; exact HH.out.row.cell_ (i := 5) rfl
  go_enter Tryz.func10, Tryz.ntmps10
  go_upto_region 1 with (fail)
  refine wp_region_phase (n := 10) 9 (fun w => w.cell? ⟨B, 4, none⟩ = some (.int .i64 (5)) ∧ w.cell? ⟨B, 5, none⟩ = some (.int .i64 (ln))) rfl (by kernel_rfl) ⟨c4, c5⟩ (fun hHeld => ?_)
  have HP0 := Lib.hid (HH.out.keep (Only.refl Nil w).drew)
  have HO0 := Lib.hid ((Only.refl (TurnB B A) w).drew)
  clear HH c4 c5
  generalize w.drew = w2 at *
  refine mpa 0 rfl (.pointer (some ⟨B, 4, none⟩)) (fun w => ?_) ?_
  · go_simp
  (try simp only [Act.put, k1, k2, k3])
  refine mpa 1 rfl (.pointer (some ⟨B, 4, none⟩)) (fun w => ?_) ?_
  · go_simp
  (try simp only [Act.put, k1, k2, k3])
  refine mpa 2 rfl (.pointer (some ⟨B, 4, none⟩)) (fun w => ?_) ?_
  · go_simp
  (try simp only [Act.put, k1, k2, k3])
  refine mpt 3 rfl (.int .i64 (5)) (fun w hSw => ?_) ?_
  · (try dsimp only at hSw)
    go_split_ands
    go_simp
  (try simp only [Act.put, k1, k2, k3])
  refine mpa 4 rfl (.pointer (some ⟨B, 4, none⟩)) (fun w => ?_) ?_
  · go_simp
  (try simp only [Act.put, k1, k2, k3])
  refine mpa 5 rfl (.pointer (some ⟨B, 4, none⟩)) (fun w => ?_) ?_
  · go_simp
  (try simp only [Act.put, k1, k2, k3])
  refine mpa 6 rfl (.pointer (some ⟨B, 5, none⟩)) (fun w => ?_) ?_
  · go_simp
  (try simp only [Act.put, k1, k2, k3])
  refine mpt 7 rfl (.int .i64 (ln)) (fun w hSw => ?_) ?_
  · (try dsimp only at hSw)
    go_split_ands
    go_simp
  (try simp only [Act.put, k1, k2, k3])
  refine mpa 8 rfl (.int .i64 (5)) (fun w => ?_) ?_
  · go_simp
  (try simp only [Act.put, k1, k2, k3])
  refine mpc 9 rfl (by kernel_rfl) (by rfl) (fun K hK => ?_)
  go_simp
  refine hK.out _ _ (.inl (by kernel_rfl)) ?_
  clear hK K hHeld
  (try simp only [Act.put, k1, k2, k3])
  refine wpAnyP_done (by kernel_rfl) ?_ _
  go_wp2_with fail
  have e0 := (Only.refl Nil w2).alloc (.cells #[.int .i64 4] 3)
  have HPA := Lib.hid (HP0.out.keep e0)
  have HOA := Lib.hid (HO0.out.trans (e0.mono (T := TurnB B A) (fun _ _ h => h.elim)))
  refine (rqgive_run B base A l cp nv r 6 true _ [4] _ HPA.out HL.out HX.out HA.out (rwhats_1 HP0.out 4) (by decide) (by decide) (by decide)).mono ?_
  clear e0
  rintro e w3 ⟨rfl, hO, nv1, hP⟩
  have HO1 := Lib.hid (HOA.out.trans hO)
  have HP1 := Lib.hid hP
  clear hO hP HPA HOA
  go_wp2
  go_returns
  exact ⟨rfl, HO1.out, nv1, HP1.out⟩
set_option maxRecDepth 100000 in
set_option maxHeartbeats 4000000 in
theorem fqr_g7_b (B base : Nat) (A : Option Addr) (l cp : Nat) (nv : Value) (r : LS) (w : World) (h : RunR w B base A l cp nv r) (hl : r.ns.length ≤ 900) (hx : Words r.xs) (ha : 0 ≤ r.a ∧ r.a < 4294967296) (h1 : r.op = 7) (hh : 1 < r.line) (hh2 : r.line ≠ 2) (hh3 : r.line ≠ 3) :
    Calls Tryz.prog 10 #[Value.pointer (some ⟨B, 0, none⟩)] w (DoneR B base A l cp w (.tuple #[]) (r.qGive 6 false [8])) := by
  have H1 := Lib.hid h1
  clear h1
  obtain ⟨ln, H2⟩ : ∃ ln, Hid (r.line = ln) := ⟨_, Lib.hid rfl⟩
  rw [H2.out] at hh
  rw [H2.out] at hh2
  rw [H2.out] at hh3
  have q0 : decide ((0 : Int) ≤ ln) = true := by simp; omega
  have q1 : decide (ln ≤ (1 : Int)) = false := by simp; omega
  have n2 : (ln == 2) = false := beq_eq_false_iff_ne.2 (by omega)
  have n3 : (ln == 3) = false := beq_eq_false_iff_ne.2 (by omega)
  clear hh hh2 hh3
  have HX := Lib.hid hx
  have HL := Lib.hid hl
  have HA := Lib.hid ha
  have HH := Lib.hid h
  clear h hl hx ha
  have c4 : w.cell? ⟨B, 4, none⟩ = some (.int .i64 (7)) := by rw [← H1.out]; exact HH.out.row.cell_ (i := 4) rfl
  have c5 : w.cell? ⟨B, 5, none⟩ = some (.int .i64 (ln)) := by rw [← H2.out]; exact HH.out.row.cell_ (i := 5) rfl
  go_enter Tryz.func10, Tryz.ntmps10
  go_upto_region 1 with (fail)
  refine wp_region_phase (n := 10) 9 (fun w => w.cell? ⟨B, 4, none⟩ = some (.int .i64 (7)) ∧ w.cell? ⟨B, 5, none⟩ = some (.int .i64 (ln))) rfl (by kernel_rfl) ⟨c4, c5⟩ (fun hHeld => ?_)
  have HP0 := Lib.hid (HH.out.keep (Only.refl Nil w).drew)
  have HO0 := Lib.hid ((Only.refl (TurnB B A) w).drew)
  clear HH c4 c5
  generalize w.drew = w2 at *
  refine mpa 0 rfl (.pointer (some ⟨B, 4, none⟩)) (fun w => ?_) ?_
  · go_simp
  (try simp only [Act.put, k1, k2, k3])
  refine mpa 1 rfl (.pointer (some ⟨B, 4, none⟩)) (fun w => ?_) ?_
  · go_simp
  (try simp only [Act.put, k1, k2, k3])
  refine mpa 2 rfl (.pointer (some ⟨B, 4, none⟩)) (fun w => ?_) ?_
  · go_simp
  (try simp only [Act.put, k1, k2, k3])
  refine mpt 3 rfl (.int .i64 (7)) (fun w hSw => ?_) ?_
  · (try dsimp only at hSw)
    go_split_ands
    go_simp
  (try simp only [Act.put, k1, k2, k3])
  refine mpa 4 rfl (.pointer (some ⟨B, 4, none⟩)) (fun w => ?_) ?_
  · go_simp
  (try simp only [Act.put, k1, k2, k3])
  refine mpa 5 rfl (.pointer (some ⟨B, 4, none⟩)) (fun w => ?_) ?_
  · go_simp
  (try simp only [Act.put, k1, k2, k3])
  refine mpa 6 rfl (.pointer (some ⟨B, 5, none⟩)) (fun w => ?_) ?_
  · go_simp
  (try simp only [Act.put, k1, k2, k3])
  refine mpt 7 rfl (.int .i64 (ln)) (fun w hSw => ?_) ?_
  · (try dsimp only at hSw)
    go_split_ands
    go_simp
  (try simp only [Act.put, k1, k2, k3])
  refine mpa 8 rfl (.int .i64 (7)) (fun w => ?_) ?_
  · go_simp
  (try simp only [Act.put, k1, k2, k3])
  refine mpc 9 rfl (by kernel_rfl) (by rfl) (fun K hK => ?_)
  go_simp
  refine hK.out _ _ (.inl (by kernel_rfl)) ?_
  clear hK K hHeld
  (try simp only [Act.put, k1, k2, k3])
  refine wpAnyP_done (by kernel_rfl) ?_ _
  go_wp2_with fail
  have e0 := (Only.refl Nil w2).alloc (.cells #[.int .i64 8] 3)
  have HPA := Lib.hid (HP0.out.keep e0)
  have HOA := Lib.hid (HO0.out.trans (e0.mono (T := TurnB B A) (fun _ _ h => h.elim)))
  refine (rqgive_run B base A l cp nv r 6 false _ [8] _ HPA.out HL.out HX.out HA.out (rwhats_1 HP0.out 8) (by decide) (by decide) (by decide)).mono ?_
  clear e0
  rintro e w3 ⟨rfl, hO, nv1, hP⟩
  have HO1 := Lib.hid (HOA.out.trans hO)
  have HP1 := Lib.hid hP
  clear hO hP HPA HOA
  go_wp2
  go_returns
  exact ⟨rfl, HO1.out, nv1, HP1.out⟩
set_option maxRecDepth 100000 in
set_option maxHeartbeats 4000000 in
theorem fqr_n3_a (B base : Nat) (A : Option Addr) (l cp : Nat) (nv : Value) (r : LS) (w : World) (h : RunR w B base A l cp nv r) (hl : r.ns.length ≤ 900) (hx : Words r.xs) (ha : 0 ≤ r.a ∧ r.a < 4294967296) (h1 : r.op = 3) (hh : r.line < 0) :
    Calls Tryz.prog 10 #[Value.pointer (some ⟨B, 0, none⟩)] w (DoneR B base A l cp w (.tuple #[]) (r)) := by
  have H1 := Lib.hid h1
  clear h1
  obtain ⟨ln, H2⟩ : ∃ ln, Hid (r.line = ln) := ⟨_, Lib.hid rfl⟩
  rw [H2.out] at hh
  have q0 : decide ((0 : Int) ≤ ln) = false := by simp; omega
  have n5 : (ln == 5) = false := beq_eq_false_iff_ne.2 (by omega)
  clear hh
  have HX := Lib.hid hx
  have HL := Lib.hid hl
  have HA := Lib.hid ha
  have HH := Lib.hid h
  clear h hl hx ha
  have c4 : w.cell? ⟨B, 4, none⟩ = some (.int .i64 (3)) := by rw [← H1.out]; exact HH.out.row.cell_ (i := 4) rfl
  have c5 : w.cell? ⟨B, 5, none⟩ = some (.int .i64 (ln)) := by rw [← H2.out]; exact HH.out.row.cell_ (i := 5) rfl
  go_enter Tryz.func10, Tryz.ntmps10
  go_upto_region 1 with (fail)
  refine wp_region_phase (n := 10) 9 (fun w => w.cell? ⟨B, 4, none⟩ = some (.int .i64 (3)) ∧ w.cell? ⟨B, 5, none⟩ = some (.int .i64 (ln))) rfl (by kernel_rfl) ⟨c4, c5⟩ (fun hHeld => ?_)
  have HP0 := Lib.hid (HH.out.keep (Only.refl Nil w).drew)
  have HO0 := Lib.hid ((Only.refl (TurnB B A) w).drew)
  clear HH c4 c5
  generalize w.drew = w2 at *
  refine mpa 0 rfl (.pointer (some ⟨B, 4, none⟩)) (fun w => ?_) ?_
  · go_simp
  (try simp only [Act.put, k1, k2, k3])
  refine mpa 1 rfl (.pointer (some ⟨B, 4, none⟩)) (fun w => ?_) ?_
  · go_simp
  (try simp only [Act.put, k1, k2, k3])
  refine mpa 2 rfl (.pointer (some ⟨B, 4, none⟩)) (fun w => ?_) ?_
  · go_simp
  (try simp only [Act.put, k1, k2, k3])
  refine mpt 3 rfl (.int .i64 (3)) (fun w hSw => ?_) ?_
  · (try dsimp only at hSw)
    go_split_ands
    go_simp
  (try simp only [Act.put, k1, k2, k3])
  refine mpa 4 rfl (.pointer (some ⟨B, 4, none⟩)) (fun w => ?_) ?_
  · go_simp
  (try simp only [Act.put, k1, k2, k3])
  refine mpa 5 rfl (.pointer (some ⟨B, 4, none⟩)) (fun w => ?_) ?_
  · go_simp
  (try simp only [Act.put, k1, k2, k3])
  refine mpa 6 rfl (.pointer (some ⟨B, 5, none⟩)) (fun w => ?_) ?_
  · go_simp
  (try simp only [Act.put, k1, k2, k3])
  refine mpt 7 rfl (.int .i64 (ln)) (fun w hSw => ?_) ?_
  · (try dsimp only at hSw)
    go_split_ands
    go_simp
  (try simp only [Act.put, k1, k2, k3])
  refine mpa 8 rfl (.int .i64 (3)) (fun w => ?_) ?_
  · go_simp
  (try simp only [Act.put, k1, k2, k3])
  refine mpc 9 rfl (by kernel_rfl) (by rfl) (fun K hK => ?_)
  go_simp
  refine hK.out _ _ (.inl (by kernel_rfl)) ?_
  clear hK K hHeld
  (try simp only [Act.put, k1, k2, k3])
  refine wpAnyP_done (by kernel_rfl) ?_ _
  go_wp2
  go_returns
  exact ⟨rfl, HO0.out, nv, HP0.out⟩
end Go.Proofs.YtkkldcggbekleaaGreat
