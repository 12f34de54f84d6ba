import Derived.Test.YtkkldcggbekleaaGreatS32
set_option linter.unusedVariables false
set_option linter.unusedSimpArgs false
namespace Go.Proofs.YtkkldcggbekleaaGreat
open Go.RowKit
set_option maxRecDepth 100000 in
set_option maxHeartbeats 4000000 in
theorem stepOf_7_6 (B : Nat) (p A : Option Addr) (cp : Nat) (nv : Value) (r : LS) (w : World) (h : RunP w B p A cp nv r) (hl : r.ns.length ≤ 900) (hx : Words r.xs) (ha : 0 ≤ r.a ∧ r.a < 4294967296) (h1 : r.op = 7) (h2 : r.line = 6 ∨ r.line = 7 ∨ r.line = 8 ∨ r.line = 9) :
    Calls Tryz.prog 22 #[Value.pointer (some ⟨B, 0, none⟩)] w (Clo 76 B p A cp r.fq w) := by
  have HT := Lib.hid (show r.fq = r.qGive 6 false [8] by (rcases h2 with h2 | h2 | h2 | h2 <;> (unfold LS.fq; rw [h1, h2]; rfl)))
  have H1 := Lib.hid h1
  have HH := Lib.hid h2
  clear h1 h2
  obtain ⟨ln, H2⟩ : ∃ ln, Hid (r.line = ln) := ⟨_, Lib.hid rfl⟩
  have HX := Lib.hid hx
  have HL := Lib.hid hl
  have HA := Lib.hid ha
  have e0 := (Only.refl Nil w).alloc (.cells #[Value.pointer (some ⟨B, 0, none⟩)] 35)
  have HP := Lib.hid (h.keep e0)
  have HO := Lib.hid e0
  have HR := Lib.hid (Row.new w 35 #[Value.pointer (some ⟨B, 0, none⟩)])
  clear h hl hx ha e0
  go_enter Tryz.func22, Tryz.ntmps22
  go_upto_region 1 with (fail)
  generalize w.alloc (.cells #[Value.pointer (some ⟨B, 0, none⟩)] 35) = w1 at *
  generalize w.heap.size = gs at *
  refine wp_region_phase (n := 11) 10 (fun w => w.cell? ⟨gs, 0, none⟩ = some (Value.pointer (some ⟨B, 0, none⟩)) ∧ w.cell? ⟨B, 4, none⟩ = some (.int .i64 (7)) ∧ w.cell? ⟨B, 5, none⟩ = some (.int .i64 (ln))) rfl (by kernel_rfl) ⟨HR.out.cell_ (i := 0) rfl, by rw [← H1.out]; exact HP.out.row.cell_ (i := 4) rfl, by rw [← H2.out]; exact HP.out.row.cell_ (i := 5) rfl⟩ (fun hHeld => ?_)
  have HP1 := Lib.hid (HP.out.keep (Only.refl Nil w1).drew)
  have HR1 := Lib.hid HR.out.drew
  have HO1 := Lib.hid HO.out.drew
  clear HP HR HO
  generalize w1.drew = w2 at *
  refine mpt 0 rfl (Value.pointer (some ⟨B, 0, none⟩)) (fun w hSw => ?_) ?_
  · (try dsimp only at hSw)
    go_split_ands
    go_simp
  (try simp only [Act.put, k1, k2, k3])
  refine mpa 1 rfl (Value.pointer (some ⟨B, 0, none⟩)) (fun w => ?_) ?_
  · go_simp
  (try simp only [Act.put, k1, k2, k3])
  refine mpa 2 rfl (.pointer (some ⟨B, 4, none⟩)) (fun w => ?_) ?_
  · go_simp
  (try simp only [Act.put, k1, k2, k3])
  refine mpa 3 rfl (.pointer (some ⟨B, 4, none⟩)) (fun w => ?_) ?_
  · go_simp
  (try simp only [Act.put, k1, k2, k3])
  refine mpt 4 rfl (.int .i64 (7)) (fun w hSw => ?_) ?_
  · (try dsimp only at hSw)
    go_split_ands
    go_simp
  (try simp only [Act.put, k1, k2, k3])
  refine mpt 5 rfl (Value.pointer (some ⟨B, 0, none⟩)) (fun w hSw => ?_) ?_
  · (try dsimp only at hSw)
    go_split_ands
    go_simp
  (try simp only [Act.put, k1, k2, k3])
  refine mpa 6 rfl (Value.pointer (some ⟨B, 0, none⟩)) (fun w => ?_) ?_
  · go_simp
  (try simp only [Act.put, k1, k2, k3])
  refine mpa 7 rfl (.pointer (some ⟨B, 4, none⟩)) (fun w => ?_) ?_
  · go_simp
  (try simp only [Act.put, k1, k2, k3])
  refine mpa 8 rfl (.pointer (some ⟨B, 5, none⟩)) (fun w => ?_) ?_
  · go_simp
  (try simp only [Act.put, k1, k2, k3])
  refine mpt 9 rfl (.int .i64 (ln)) (fun w hSw => ?_) ?_
  · (try dsimp only at hSw)
    go_split_ands
    go_simp
  (try simp only [Act.put, k1, k2, k3])
  refine mpc 10 rfl (by kernel_rfl) (by rfl) (fun K hK => ?_)
  go_simp
  refine hK.out _ _ (.inl (by kernel_rfl)) ?_
  clear hK K
  (try simp only [Act.put, k1, k2, k3])
  refine wpAnyP_done (by kernel_rfl) ?_ _
  clear hHeld
  have b0 : w2.cell? ⟨gs, 0, none⟩ = some (Value.pointer (some ⟨B, 0, none⟩)) := HR1.out.cell_ (i := 0) rfl
  have hln := HH.out
  clear HH
  rw [H2.out] at hln
  rcases hln with rfl | rfl | rfl | rfl
  all_goals
    go_wp2_with fail
    clear b0
    have e0 := (Only.refl Nil w2).alloc (.cells #[.int .i64 8] 3)
    have hc := give_make B p A cp nv r 6 false _ [8] _ (HP1.out.keep e0) HL.out HX.out HA.out (whats_1 HP1.out 8) (by decide) (by decide) (by decide)
    rw [← HT.out] at hc
    refine hc.mono ?_
    rintro e w3 ⟨caps, rfl, hO, hC⟩
    have HO3 := Lib.hid ((HO1.out.trans e0).trans hO)
    have HC3 := Lib.hid hC
    clear hO hC hc e0
    go_wp2
    go_ret
    exact ⟨caps, rfl, HO3.out, HC3.out⟩
set_option maxRecDepth 100000 in
set_option maxHeartbeats 4000000 in
theorem stepOf_5_5 (B : Nat) (p A : Option Addr) (cp : Nat) (nv : Value) (r : LS) (w : World) (h : RunP w B p A cp nv r) (hl : r.ns.length ≤ 900) (hx : Words r.xs) (ha : 0 ≤ r.a ∧ r.a < 4294967296) (h1 : r.op = 5) (h2 : r.line = 5) :
    Calls Tryz.prog 22 #[Value.pointer (some ⟨B, 0, none⟩)] w (Clo 74 B p A cp r.fq w) := by
  have HT := Lib.hid (show r.fq = (r.doA 3 1 1 0).go 6 by unfold LS.fq; rw [h1, h2]; rfl)
  have H1 := Lib.hid h1
  have HH := Lib.hid h2
  clear h1 h2
  obtain ⟨ln, H2⟩ : ∃ ln, Hid (r.line = ln) := ⟨_, Lib.hid rfl⟩
  have HX := Lib.hid hx
  have HL := Lib.hid hl
  have HA := Lib.hid ha
  have e0 := (Only.refl Nil w).alloc (.cells #[Value.pointer (some ⟨B, 0, none⟩)] 35)
  have HP := Lib.hid (h.keep e0)
  have HO := Lib.hid e0
  have HR := Lib.hid (Row.new w 35 #[Value.pointer (some ⟨B, 0, none⟩)])
  clear h hl hx ha e0
  go_enter Tryz.func22, Tryz.ntmps22
  go_upto_region 1 with (fail)
  generalize w.alloc (.cells #[Value.pointer (some ⟨B, 0, none⟩)] 35) = w1 at *
  generalize w.heap.size = gs at *
  refine wp_region_phase (n := 11) 10 (fun w => w.cell? ⟨gs, 0, none⟩ = some (Value.pointer (some ⟨B, 0, none⟩)) ∧ w.cell? ⟨B, 4, none⟩ = some (.int .i64 (5)) ∧ w.cell? ⟨B, 5, none⟩ = some (.int .i64 (ln))) rfl (by kernel_rfl) ⟨HR.out.cell_ (i := 0) rfl, by rw [← H1.out]; exact HP.out.row.cell_ (i := 4) rfl, by rw [← H2.out]; exact HP.out.row.cell_ (i := 5) rfl⟩ (fun hHeld => ?_)
  have HP1 := Lib.hid (HP.out.keep (Only.refl Nil w1).drew)
  have HR1 := Lib.hid HR.out.drew
  have HO1 := Lib.hid HO.out.drew
  clear HP HR HO
  generalize w1.drew = w2 at *
  refine mpt 0 rfl (Value.pointer (some ⟨B, 0, none⟩)) (fun w hSw => ?_) ?_
  · (try dsimp only at hSw)
    go_split_ands
    go_simp
  (try simp only [Act.put, k1, k2, k3])
  refine mpa 1 rfl (Value.pointer (some ⟨B, 0, none⟩)) (fun w => ?_) ?_
  · go_simp
  (try simp only [Act.put, k1, k2, k3])
  refine mpa 2 rfl (.pointer (some ⟨B, 4, none⟩)) (fun w => ?_) ?_
  · go_simp
  (try simp only [Act.put, k1, k2, k3])
  refine mpa 3 rfl (.pointer (some ⟨B, 4, none⟩)) (fun w => ?_) ?_
  · go_simp
  (try simp only [Act.put, k1, k2, k3])
  refine mpt 4 rfl (.int .i64 (5)) (fun w hSw => ?_) ?_
  · (try dsimp only at hSw)
    go_split_ands
    go_simp
  (try simp only [Act.put, k1, k2, k3])
  refine mpt 5 rfl (Value.pointer (some ⟨B, 0, none⟩)) (fun w hSw => ?_) ?_
  · (try dsimp only at hSw)
    go_split_ands
    go_simp
  (try simp only [Act.put, k1, k2, k3])
  refine mpa 6 rfl (Value.pointer (some ⟨B, 0, none⟩)) (fun w => ?_) ?_
  · go_simp
  (try simp only [Act.put, k1, k2, k3])
  refine mpa 7 rfl (.pointer (some ⟨B, 4, none⟩)) (fun w => ?_) ?_
  · go_simp
  (try simp only [Act.put, k1, k2, k3])
  refine mpa 8 rfl (.pointer (some ⟨B, 5, none⟩)) (fun w => ?_) ?_
  · go_simp
  (try simp only [Act.put, k1, k2, k3])
  refine mpt 9 rfl (.int .i64 (ln)) (fun w hSw => ?_) ?_
  · (try dsimp only at hSw)
    go_split_ands
    go_simp
  (try simp only [Act.put, k1, k2, k3])
  refine mpc 10 rfl (by kernel_rfl) (by rfl) (fun K hK => ?_)
  go_simp
  refine hK.out _ _ (.inl (by kernel_rfl)) ?_
  clear hK K
  (try simp only [Act.put, k1, k2, k3])
  refine wpAnyP_done (by kernel_rfl) ?_ _
  clear hHeld
  have b0 : w2.cell? ⟨gs, 0, none⟩ = some (Value.pointer (some ⟨B, 0, none⟩)) := HR1.out.cell_ (i := 0) rfl
  have hln := HH.out
  clear HH
  rw [H2.out] at hln
  rcases hln with rfl
  all_goals
    go_wp2_with fail
    clear b0
    have hc := cin_make B p A cp nv r 6 _ HP1.out HL.out
    rw [← HT.out] at hc
    refine hc.mono ?_
    rintro e w3 ⟨caps, rfl, hO, hC⟩
    have HO3 := Lib.hid (HO1.out.trans hO)
    have HC3 := Lib.hid hC
    clear hO hC hc
    go_wp2
    go_ret
    exact ⟨caps, rfl, HO3.out, HC3.out⟩
set_option maxRecDepth 100000 in
set_option maxHeartbeats 4000000 in
theorem stepOf_7_3 (B : Nat) (p A : Option Addr) (cp : Nat) (nv : Value) (r : LS) (w : World) (h : RunP w B p A cp nv r) (hl : r.ns.length ≤ 900) (hx : Words r.xs) (ha : 0 ≤ r.a ∧ r.a < 4294967296) (h1 : r.op = 7) (h2 : r.line = 3) :
    Calls Tryz.prog 22 #[Value.pointer (some ⟨B, 0, none⟩)] w (Clo 88 B p A cp r.fq w) := by
  have HT := Lib.hid (show r.fq = (((r.doA 3 1 4294967295 0).note 9 0).fin true) by unfold LS.fq; rw [h1, h2]; rfl)
  have H1 := Lib.hid h1
  have HH := Lib.hid h2
  clear h1 h2
  obtain ⟨ln, H2⟩ : ∃ ln, Hid (r.line = ln) := ⟨_, Lib.hid rfl⟩
  have HX := Lib.hid hx
  have HL := Lib.hid hl
  have HA := Lib.hid ha
  have e0 := (Only.refl Nil w).alloc (.cells #[Value.pointer (some ⟨B, 0, none⟩)] 35)
  have HP := Lib.hid (h.keep e0)
  have HO := Lib.hid e0
  have HR := Lib.hid (Row.new w 35 #[Value.pointer (some ⟨B, 0, none⟩)])
  clear h hl hx ha e0
  go_enter Tryz.func22, Tryz.ntmps22
  go_upto_region 1 with (fail)
  generalize w.alloc (.cells #[Value.pointer (some ⟨B, 0, none⟩)] 35) = w1 at *
  generalize w.heap.size = gs at *
  refine wp_region_phase (n := 11) 10 (fun w => w.cell? ⟨gs, 0, none⟩ = some (Value.pointer (some ⟨B, 0, none⟩)) ∧ w.cell? ⟨B, 4, none⟩ = some (.int .i64 (7)) ∧ w.cell? ⟨B, 5, none⟩ = some (.int .i64 (ln))) rfl (by kernel_rfl) ⟨HR.out.cell_ (i := 0) rfl, by rw [← H1.out]; exact HP.out.row.cell_ (i := 4) rfl, by rw [← H2.out]; exact HP.out.row.cell_ (i := 5) rfl⟩ (fun hHeld => ?_)
  have HP1 := Lib.hid (HP.out.keep (Only.refl Nil w1).drew)
  have HR1 := Lib.hid HR.out.drew
  have HO1 := Lib.hid HO.out.drew
  clear HP HR HO
  generalize w1.drew = w2 at *
  refine mpt 0 rfl (Value.pointer (some ⟨B, 0, none⟩)) (fun w hSw => ?_) ?_
  · (try dsimp only at hSw)
    go_split_ands
    go_simp
  (try simp only [Act.put, k1, k2, k3])
  refine mpa 1 rfl (Value.pointer (some ⟨B, 0, none⟩)) (fun w => ?_) ?_
  · go_simp
  (try simp only [Act.put, k1, k2, k3])
  refine mpa 2 rfl (.pointer (some ⟨B, 4, none⟩)) (fun w => ?_) ?_
  · go_simp
  (try simp only [Act.put, k1, k2, k3])
  refine mpa 3 rfl (.pointer (some ⟨B, 4, none⟩)) (fun w => ?_) ?_
  · go_simp
  (try simp only [Act.put, k1, k2, k3])
  refine mpt 4 rfl (.int .i64 (7)) (fun w hSw => ?_) ?_
  · (try dsimp only at hSw)
    go_split_ands
    go_simp
  (try simp only [Act.put, k1, k2, k3])
  refine mpt 5 rfl (Value.pointer (some ⟨B, 0, none⟩)) (fun w hSw => ?_) ?_
  · (try dsimp only at hSw)
    go_split_ands
    go_simp
  (try simp only [Act.put, k1, k2, k3])
  refine mpa 6 rfl (Value.pointer (some ⟨B, 0, none⟩)) (fun w => ?_) ?_
  · go_simp
  (try simp only [Act.put, k1, k2, k3])
  refine mpa 7 rfl (.pointer (some ⟨B, 4, none⟩)) (fun w => ?_) ?_
  · go_simp
  (try simp only [Act.put, k1, k2, k3])
  refine mpa 8 rfl (.pointer (some ⟨B, 5, none⟩)) (fun w => ?_) ?_
  · go_simp
  (try simp only [Act.put, k1, k2, k3])
  refine mpt 9 rfl (.int .i64 (ln)) (fun w hSw => ?_) ?_
  · (try dsimp only at hSw)
    go_split_ands
    go_simp
  (try simp only [Act.put, k1, k2, k3])
  refine mpc 10 rfl (by kernel_rfl) (by rfl) (fun K hK => ?_)
  go_simp
  refine hK.out _ _ (.inl (by kernel_rfl)) ?_
  clear hK K
  (try simp only [Act.put, k1, k2, k3])
  refine wpAnyP_done (by kernel_rfl) ?_ _
  clear hHeld
  have b0 : w2.cell? ⟨gs, 0, none⟩ = some (Value.pointer (some ⟨B, 0, none⟩)) := HR1.out.cell_ (i := 0) rfl
  have hln := HH.out
  clear HH
  rw [H2.out] at hln
  rcases hln with rfl
  all_goals
    go_wp2_with fail
    clear b0
    have hc := stop_make B p A cp nv r _ HP1.out HL.out
    rw [← HT.out] at hc
    refine hc.mono ?_
    rintro e w3 ⟨caps, rfl, hO, hC⟩
    have HO3 := Lib.hid (HO1.out.trans hO)
    have HC3 := Lib.hid hC
    clear hO hC hc
    go_wp2
    go_ret
    exact ⟨caps, rfl, HO3.out, HC3.out⟩
end Go.Proofs.YtkkldcggbekleaaGreat
set_option linter.unusedVariables false
set_option linter.unusedSimpArgs false
namespace Go.Proofs.YtkkldcggbekleaaGreat
open Go.RowKit
set_option maxRecDepth 100000 in
set_option maxHeartbeats 4000000 in
theorem stepOf_8_1 (B : Nat) (p A : Option Addr) (cp : Nat) (nv : Value) (r : LS) (w : World) (h : RunP w B p A cp nv r) (hl : r.ns.length ≤ 900) (hx : Words r.xs) (ha : 0 ≤ r.a ∧ r.a < 4294967296) (h1 : r.op = 8) (h2 : r.line = 1 ∨ r.line = 2 ∨ r.line = 3 ∨ r.line = 4) :
    Calls Tryz.prog 22 #[Value.pointer (some ⟨B, 0, none⟩)] w (Clo 76 B p A cp r.fq w) := by
  have HT := Lib.hid (show r.fq = r.qGive 1 true [10] by (rcases h2 with h2 | h2 | h2 | h2 <;> (unfold LS.fq; rw [h1, h2]; rfl)))
  have H1 := Lib.hid h1
  have HH := Lib.hid h2
  clear h1 h2
  obtain ⟨ln, H2⟩ : ∃ ln, Hid (r.line = ln) := ⟨_, Lib.hid rfl⟩
  have HX := Lib.hid hx
  have HL := Lib.hid hl
  have HA := Lib.hid ha
  have e0 := (Only.refl Nil w).alloc (.cells #[Value.pointer (some ⟨B, 0, none⟩)] 35)
  have HP := Lib.hid (h.keep e0)
  have HO := Lib.hid e0
  have HR := Lib.hid (Row.new w 35 #[Value.pointer (some ⟨B, 0, none⟩)])
  clear h hl hx ha e0
  go_enter Tryz.func22, Tryz.ntmps22
  go_upto_region 1 with (fail)
  generalize w.alloc (.cells #[Value.pointer (some ⟨B, 0, none⟩)] 35) = w1 at *
  generalize w.heap.size = gs at *
  refine wp_region_phase (n := 11) 10 (fun w => w.cell? ⟨gs, 0, none⟩ = some (Value.pointer (some ⟨B, 0, none⟩)) ∧ w.cell? ⟨B, 4, none⟩ = some (.int .i64 (8)) ∧ w.cell? ⟨B, 5, none⟩ = some (.int .i64 (ln))) rfl (by kernel_rfl) ⟨HR.out.cell_ (i := 0) rfl, by rw [← H1.out]; exact HP.out.row.cell_ (i := 4) rfl, by rw [← H2.out]; exact HP.out.row.cell_ (i := 5) rfl⟩ (fun hHeld => ?_)
  have HP1 := Lib.hid (HP.out.keep (Only.refl Nil w1).drew)
  have HR1 := Lib.hid HR.out.drew
  have HO1 := Lib.hid HO.out.drew
  clear HP HR HO
  generalize w1.drew = w2 at *
  refine mpt 0 rfl (Value.pointer (some ⟨B, 0, none⟩)) (fun w hSw => ?_) ?_
  · (try dsimp only at hSw)
    go_split_ands
    go_simp
  (try simp only [Act.put, k1, k2, k3])
  refine mpa 1 rfl (Value.pointer (some ⟨B, 0, none⟩)) (fun w => ?_) ?_
  · go_simp
  (try simp only [Act.put, k1, k2, k3])
  refine mpa 2 rfl (.pointer (some ⟨B, 4, none⟩)) (fun w => ?_) ?_
  · go_simp
  (try simp only [Act.put, k1, k2, k3])
  refine mpa 3 rfl (.pointer (some ⟨B, 4, none⟩)) (fun w => ?_) ?_
  · go_simp
  (try simp only [Act.put, k1, k2, k3])
  refine mpt 4 rfl (.int .i64 (8)) (fun w hSw => ?_) ?_
  · (try dsimp only at hSw)
    go_split_ands
    go_simp
  (try simp only [Act.put, k1, k2, k3])
  refine mpt 5 rfl (Value.pointer (some ⟨B, 0, none⟩)) (fun w hSw => ?_) ?_
  · (try dsimp only at hSw)
    go_split_ands
    go_simp
  (try simp only [Act.put, k1, k2, k3])
  refine mpa 6 rfl (Value.pointer (some ⟨B, 0, none⟩)) (fun w => ?_) ?_
  · go_simp
  (try simp only [Act.put, k1, k2, k3])
  refine mpa 7 rfl (.pointer (some ⟨B, 4, none⟩)) (fun w => ?_) ?_
  · go_simp
  (try simp only [Act.put, k1, k2, k3])
  refine mpa 8 rfl (.pointer (some ⟨B, 5, none⟩)) (fun w => ?_) ?_
  · go_simp
  (try simp only [Act.put, k1, k2, k3])
  refine mpt 9 rfl (.int .i64 (ln)) (fun w hSw => ?_) ?_
  · (try dsimp only at hSw)
    go_split_ands
    go_simp
  (try simp only [Act.put, k1, k2, k3])
  refine mpc 10 rfl (by kernel_rfl) (by rfl) (fun K hK => ?_)
  go_simp
  refine hK.out _ _ (.inl (by kernel_rfl)) ?_
  clear hK K
  (try simp only [Act.put, k1, k2, k3])
  refine wpAnyP_done (by kernel_rfl) ?_ _
  clear hHeld
  have b0 : w2.cell? ⟨gs, 0, none⟩ = some (Value.pointer (some ⟨B, 0, none⟩)) := HR1.out.cell_ (i := 0) rfl
  have hln := HH.out
  clear HH
  rw [H2.out] at hln
  rcases hln with rfl | rfl | rfl | rfl
  all_goals
    go_wp2_with fail
    clear b0
    have e0 := (Only.refl Nil w2).alloc (.cells #[.int .i64 10] 3)
    have hc := give_make B p A cp nv r 1 true _ [10] _ (HP1.out.keep e0) HL.out HX.out HA.out (whats_1 HP1.out 10) (by decide) (by decide) (by decide)
    rw [← HT.out] at hc
    refine hc.mono ?_
    rintro e w3 ⟨caps, rfl, hO, hC⟩
    have HO3 := Lib.hid ((HO1.out.trans e0).trans hO)
    have HC3 := Lib.hid hC
    clear hO hC hc e0
    go_wp2
    go_ret
    exact ⟨caps, rfl, HO3.out, HC3.out⟩
set_option maxRecDepth 100000 in
set_option maxHeartbeats 4000000 in
theorem stepOf_2_0 (B : Nat) (p A : Option Addr) (cp : Nat) (nv : Value) (r : LS) (w : World) (h : RunP w B p A cp nv r) (hl : r.ns.length ≤ 900) (hx : Words r.xs) (ha : 0 ≤ r.a ∧ r.a < 4294967296) (h1 : r.op = 2) (h2 : r.line = 0) :
    Calls Tryz.prog 22 #[Value.pointer (some ⟨B, 0, none⟩)] w (Clo 78 B p A cp r.fq w) := by
  have HT := Lib.hid (show r.fq = ((((r.doA 3 1 4294967295 0).note 6 0).wake 1).fin true) by unfold LS.fq; rw [h1, h2]; rfl)
  have H1 := Lib.hid h1
  have HH := Lib.hid h2
  clear h1 h2
  obtain ⟨ln, H2⟩ : ∃ ln, Hid (r.line = ln) := ⟨_, Lib.hid rfl⟩
  have HX := Lib.hid hx
  have HL := Lib.hid hl
  have HA := Lib.hid ha
  have e0 := (Only.refl Nil w).alloc (.cells #[Value.pointer (some ⟨B, 0, none⟩)] 35)
  have HP := Lib.hid (h.keep e0)
  have HO := Lib.hid e0
  have HR := Lib.hid (Row.new w 35 #[Value.pointer (some ⟨B, 0, none⟩)])
  clear h hl hx ha e0
  go_enter Tryz.func22, Tryz.ntmps22
  go_upto_region 1 with (fail)
  generalize w.alloc (.cells #[Value.pointer (some ⟨B, 0, none⟩)] 35) = w1 at *
  generalize w.heap.size = gs at *
  refine wp_region_phase (n := 11) 10 (fun w => w.cell? ⟨gs, 0, none⟩ = some (Value.pointer (some ⟨B, 0, none⟩)) ∧ w.cell? ⟨B, 4, none⟩ = some (.int .i64 (2)) ∧ w.cell? ⟨B, 5, none⟩ = some (.int .i64 (ln))) rfl (by kernel_rfl) ⟨HR.out.cell_ (i := 0) rfl, by rw [← H1.out]; exact HP.out.row.cell_ (i := 4) rfl, by rw [← H2.out]; exact HP.out.row.cell_ (i := 5) rfl⟩ (fun hHeld => ?_)
  have HP1 := Lib.hid (HP.out.keep (Only.refl Nil w1).drew)
  have HR1 := Lib.hid HR.out.drew
  have HO1 := Lib.hid HO.out.drew
  clear HP HR HO
  generalize w1.drew = w2 at *
  refine mpt 0 rfl (Value.pointer (some ⟨B, 0, none⟩)) (fun w hSw => ?_) ?_
  · (try dsimp only at hSw)
    go_split_ands
    go_simp
  (try simp only [Act.put, k1, k2, k3])
  refine mpa 1 rfl (Value.pointer (some ⟨B, 0, none⟩)) (fun w => ?_) ?_
  · go_simp
  (try simp only [Act.put, k1, k2, k3])
  refine mpa 2 rfl (.pointer (some ⟨B, 4, none⟩)) (fun w => ?_) ?_
  · go_simp
  (try simp only [Act.put, k1, k2, k3])
  refine mpa 3 rfl (.pointer (some ⟨B, 4, none⟩)) (fun w => ?_) ?_
  · go_simp
  (try simp only [Act.put, k1, k2, k3])
  refine mpt 4 rfl (.int .i64 (2)) (fun w hSw => ?_) ?_
  · (try dsimp only at hSw)
    go_split_ands
    go_simp
  (try simp only [Act.put, k1, k2, k3])
  refine mpt 5 rfl (Value.pointer (some ⟨B, 0, none⟩)) (fun w hSw => ?_) ?_
  · (try dsimp only at hSw)
    go_split_ands
    go_simp
  (try simp only [Act.put, k1, k2, k3])
  refine mpa 6 rfl (Value.pointer (some ⟨B, 0, none⟩)) (fun w => ?_) ?_
  · go_simp
  (try simp only [Act.put, k1, k2, k3])
  refine mpa 7 rfl (.pointer (some ⟨B, 4, none⟩)) (fun w => ?_) ?_
  · go_simp
  (try simp only [Act.put, k1, k2, k3])
  refine mpa 8 rfl (.pointer (some ⟨B, 5, none⟩)) (fun w => ?_) ?_
  · go_simp
  (try simp only [Act.put, k1, k2, k3])
  refine mpt 9 rfl (.int .i64 (ln)) (fun w hSw => ?_) ?_
  · (try dsimp only at hSw)
    go_split_ands
    go_simp
  (try simp only [Act.put, k1, k2, k3])
  refine mpc 10 rfl (by kernel_rfl) (by rfl) (fun K hK => ?_)
  go_simp
  refine hK.out _ _ (.inl (by kernel_rfl)) ?_
  clear hK K
  (try simp only [Act.put, k1, k2, k3])
  refine wpAnyP_done (by kernel_rfl) ?_ _
  clear hHeld
  have b0 : w2.cell? ⟨gs, 0, none⟩ = some (Value.pointer (some ⟨B, 0, none⟩)) := HR1.out.cell_ (i := 0) rfl
  have hln := HH.out
  clear HH
  rw [H2.out] at hln
  rcases hln with rfl
  all_goals
    go_wp2_with fail
    clear b0
    have hc := cout_make B p A cp nv r _ HP1.out HL.out
    rw [← HT.out] at hc
    refine hc.mono ?_
    rintro e w3 ⟨caps, rfl, hO, hC⟩
    have HO3 := Lib.hid (HO1.out.trans hO)
    have HC3 := Lib.hid hC
    clear hO hC hc
    go_wp2
    go_ret
    exact ⟨caps, rfl, HO3.out, HC3.out⟩
set_option maxRecDepth 100000 in
set_option maxHeartbeats 4000000 in
theorem stepOf_8_0 (B : Nat) (p A : Option Addr) (cp : Nat) (nv : Value) (r : LS) (w : World) (h : RunP w B p A cp nv r) (hl : r.ns.length ≤ 900) (hx : Words r.xs) (ha : 0 ≤ r.a ∧ r.a < 4294967296) (h1 : r.op = 8) (h2 : r.line = 0) :
    Calls Tryz.prog 22 #[Value.pointer (some ⟨B, 0, none⟩)] w (Clo 74 B p A cp r.fq w) := by
  have HT := Lib.hid (show r.fq = (r.doA 3 1 1 0).go 1 by unfold LS.fq; rw [h1, h2]; rfl)
  have H1 := Lib.hid h1
  have HH := Lib.hid h2
  clear h1 h2
  obtain ⟨ln, H2⟩ : ∃ ln, Hid (r.line = ln) := ⟨_, Lib.hid rfl⟩
  have HX := Lib.hid hx
  have HL := Lib.hid hl
  have HA := Lib.hid ha
  have e0 := (Only.refl Nil w).alloc (.cells #[Value.pointer (some ⟨B, 0, none⟩)] 35)
  have HP := Lib.hid (h.keep e0)
  have HO := Lib.hid e0
  have HR := Lib.hid (Row.new w 35 #[Value.pointer (some ⟨B, 0, none⟩)])
  clear h hl hx ha e0
  go_enter Tryz.func22, Tryz.ntmps22
  go_upto_region 1 with (fail)
  generalize w.alloc (.cells #[Value.pointer (some ⟨B, 0, none⟩)] 35) = w1 at *
  generalize w.heap.size = gs at *
  refine wp_region_phase (n := 11) 10 (fun w => w.cell? ⟨gs, 0, none⟩ = some (Value.pointer (some ⟨B, 0, none⟩)) ∧ w.cell? ⟨B, 4, none⟩ = some (.int .i64 (8)) ∧ w.cell? ⟨B, 5, none⟩ = some (.int .i64 (ln))) rfl (by kernel_rfl) ⟨HR.out.cell_ (i := 0) rfl, by rw [← H1.out]; exact HP.out.row.cell_ (i := 4) rfl, by rw [← H2.out]; exact HP.out.row.cell_ (i := 5) rfl⟩ (fun hHeld => ?_)
  have HP1 := Lib.hid (HP.out.keep (Only.refl Nil w1).drew)
  have HR1 := Lib.hid HR.out.drew
  have HO1 := Lib.hid HO.out.drew
  clear HP HR HO
  generalize w1.drew = w2 at *
  refine mpt 0 rfl (Value.pointer (some ⟨B, 0, none⟩)) (fun w hSw => ?_) ?_
  · (try dsimp only at hSw)
    go_split_ands
    go_simp
  (try simp only [Act.put, k1, k2, k3])
  refine mpa 1 rfl (Value.pointer (some ⟨B, 0, none⟩)) (fun w => ?_) ?_
  · go_simp
  (try simp only [Act.put, k1, k2, k3])
  refine mpa 2 rfl (.pointer (some ⟨B, 4, none⟩)) (fun w => ?_) ?_
  · go_simp
  (try simp only [Act.put, k1, k2, k3])
  refine mpa 3 rfl (.pointer (some ⟨B, 4, none⟩)) (fun w => ?_) ?_
  · go_simp
  (try simp only [Act.put, k1, k2, k3])
  refine mpt 4 rfl (.int .i64 (8)) (fun w hSw => ?_) ?_
  · (try dsimp only at hSw)
    go_split_ands
    go_simp
  (try simp only [Act.put, k1, k2, k3])
  refine mpt 5 rfl (Value.pointer (some ⟨B, 0, none⟩)) (fun w hSw => ?_) ?_
  · (try dsimp only at hSw)
    go_split_ands
    go_simp
  (try simp only [Act.put, k1, k2, k3])
  refine mpa 6 rfl (Value.pointer (some ⟨B, 0, none⟩)) (fun w => ?_) ?_
  · go_simp
  (try simp only [Act.put, k1, k2, k3])
  refine mpa 7 rfl (.pointer (some ⟨B, 4, none⟩)) (fun w => ?_) ?_
  · go_simp
  (try simp only [Act.put, k1, k2, k3])
  refine mpa 8 rfl (.pointer (some ⟨B, 5, none⟩)) (fun w => ?_) ?_
  · go_simp
  (try simp only [Act.put, k1, k2, k3])
  refine mpt 9 rfl (.int .i64 (ln)) (fun w hSw => ?_) ?_
  · (try dsimp only at hSw)
    go_split_ands
    go_simp
  (try simp only [Act.put, k1, k2, k3])
  refine mpc 10 rfl (by kernel_rfl) (by rfl) (fun K hK => ?_)
  go_simp
  refine hK.out _ _ (.inl (by kernel_rfl)) ?_
  clear hK K
  (try simp only [Act.put, k1, k2, k3])
  refine wpAnyP_done (by kernel_rfl) ?_ _
  clear hHeld
  have b0 : w2.cell? ⟨gs, 0, none⟩ = some (Value.pointer (some ⟨B, 0, none⟩)) := HR1.out.cell_ (i := 0) rfl
  have hln := HH.out
  clear HH
  rw [H2.out] at hln
  rcases hln with rfl
  all_goals
    go_wp2_with fail
    clear b0
    have hc := cin_make B p A cp nv r 1 _ HP1.out HL.out
    rw [← HT.out] at hc
    refine hc.mono ?_
    rintro e w3 ⟨caps, rfl, hO, hC⟩
    have HO3 := Lib.hid (HO1.out.trans hO)
    have HC3 := Lib.hid hC
    clear hO hC hc
    go_wp2
    go_ret
    exact ⟨caps, rfl, HO3.out, HC3.out⟩
end Go.Proofs.YtkkldcggbekleaaGreat
