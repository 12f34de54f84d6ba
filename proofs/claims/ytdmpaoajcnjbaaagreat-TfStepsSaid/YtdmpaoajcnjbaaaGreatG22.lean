import Derived.Test.YtdmpaoajcnjbaaaGreatG19
import Derived.Test.YtdmpaoajcnjbaaaGreatG20
import Derived.Test.YtdmpaoajcnjbaaaGreatG21
import Derived.Test.YtdmpaoajcnjbaaaGreatG10
set_option linter.unusedVariables false
set_option linter.unusedSimpArgs false
namespace Go.Proofs.YtdmpaoajcnjbaaaGreat
open Go.RowKit
set_option maxHeartbeats 1000000 in
theorem stepOf_no1 (B : Nat) (p A : Option Addr) (cp : Nat) (nv : Value) (r : LS) (w : World) (h : RunP w B p A cp nv r) (hl : r.ns.length ≤ 900) (hx : Words r.xs) (h1 : r.op = 1) (n0 : ¬ r.line = 0) (n1 : ¬ r.line = 1) (n2 : ¬ r.line = 2) : Calls Tryz.prog 22 #[Value.pointer (some ⟨B, 0, none⟩)] w fun e w' => e = .returned .nilFunc ∧ Only Nil w w' := by
  have H1 := Lib.hid h1
  clear h1
  obtain ⟨ln, H2⟩ : ∃ ln, Hid (r.line = ln) := ⟨_, Lib.hid rfl⟩
  rw [H2.out] at n0 n1 n2
  have HX := Lib.hid hx
  have HL := Lib.hid hl
  have e0 := (Only.refl Nil w).alloc (.cells #[Value.pointer (some ⟨B, 0, none⟩)] 35)
  have HP := Lib.hid (h.keep e0)
  have HO := Lib.hid e0
  have HR := Lib.hid (Row.new w 35 #[Value.pointer (some ⟨B, 0, none⟩)])
  clear h hl hx e0
  go_enter Tryz.func22, Tryz.ntmps22
  go_upto_region 1 with (fail)
  generalize w.alloc (.cells #[Value.pointer (some ⟨B, 0, none⟩)] 35) = w1 at *
  generalize w.heap.size = gs at *
  refine wp_region_phase (n := 11) 10 (fun w => w.cell? ⟨gs, 0, none⟩ = some (Value.pointer (some ⟨B, 0, none⟩)) ∧ w.cell? ⟨B, 4, none⟩ = some (.int .i64 (1)) ∧ w.cell? ⟨B, 5, none⟩ = some (.int .i64 (ln))) rfl (by kernel_rfl) ⟨HR.out.cell_ (i := 0) rfl, by rw [← H1.out]; exact HP.out.row.cell_ (i := 4) rfl, by rw [← H2.out]; exact HP.out.row.cell_ (i := 5) rfl⟩ (fun hHeld => ?_)
  have HP1 := Lib.hid (HP.out.keep (Only.refl Nil w1).drew)
  have HR1 := Lib.hid HR.out.drew
  have HO1 := Lib.hid HO.out.drew
  clear HP HR HO
  generalize w1.drew = w2 at *
  refine mpt 0 rfl (Value.pointer (some ⟨B, 0, none⟩)) (fun w hSw => ?_) ?_
  · (try dsimp only at hSw)
    go_split_ands
    go_simp
  (try simp only [Act.put, k1, k2, k3])
  refine mpa 1 rfl (Value.pointer (some ⟨B, 0, none⟩)) (fun w => ?_) ?_
  · go_simp
  (try simp only [Act.put, k1, k2, k3])
  refine mpa 2 rfl (.pointer (some ⟨B, 4, none⟩)) (fun w => ?_) ?_
  · go_simp
  (try simp only [Act.put, k1, k2, k3])
  refine mpa 3 rfl (.pointer (some ⟨B, 4, none⟩)) (fun w => ?_) ?_
  · go_simp
  (try simp only [Act.put, k1, k2, k3])
  refine mpt 4 rfl (.int .i64 (1)) (fun w hSw => ?_) ?_
  · (try dsimp only at hSw)
    go_split_ands
    go_simp
  (try simp only [Act.put, k1, k2, k3])
  refine mpt 5 rfl (Value.pointer (some ⟨B, 0, none⟩)) (fun w hSw => ?_) ?_
  · (try dsimp only at hSw)
    go_split_ands
    go_simp
  (try simp only [Act.put, k1, k2, k3])
  refine mpa 6 rfl (Value.pointer (some ⟨B, 0, none⟩)) (fun w => ?_) ?_
  · go_simp
  (try simp only [Act.put, k1, k2, k3])
  refine mpa 7 rfl (.pointer (some ⟨B, 4, none⟩)) (fun w => ?_) ?_
  · go_simp
  (try simp only [Act.put, k1, k2, k3])
  refine mpa 8 rfl (.pointer (some ⟨B, 5, none⟩)) (fun w => ?_) ?_
  · go_simp
  (try simp only [Act.put, k1, k2, k3])
  refine mpt 9 rfl (.int .i64 (ln)) (fun w hSw => ?_) ?_
  · (try dsimp only at hSw)
    go_split_ands
    go_simp
  (try simp only [Act.put, k1, k2, k3])
  refine mpc 10 rfl (by kernel_rfl) (by rfl) (fun K hK => ?_)
  go_simp
  refine hK.out _ _ (.inl (by kernel_rfl)) ?_
  clear hK K
  (try simp only [Act.put, k1, k2, k3])
  refine wpAnyP_done (by kernel_rfl) ?_ _
  clear hHeld
  have b0 : w2.cell? ⟨gs, 0, none⟩ = some (Value.pointer (some ⟨B, 0, none⟩)) := HR1.out.cell_ (i := 0) rfl
  go_wp2
  go_ret
  exact ⟨rfl, HO1.out⟩
set_option maxHeartbeats 1000000 in
theorem stepOf_no4 (B : Nat) (p A : Option Addr) (cp : Nat) (nv : Value) (r : LS) (w : World) (h : RunP w B p A cp nv r) (hl : r.ns.length ≤ 900) (hx : Words r.xs) (h1 : r.op = 4) (n0 : ¬ r.line = 0) (n1 : ¬ r.line = 1) : Calls Tryz.prog 22 #[Value.pointer (some ⟨B, 0, none⟩)] w fun e w' => e = .returned .nilFunc ∧ Only Nil w w' := by
  have H1 := Lib.hid h1
  clear h1
  obtain ⟨ln, H2⟩ : ∃ ln, Hid (r.line = ln) := ⟨_, Lib.hid rfl⟩
  rw [H2.out] at n0 n1
  have HX := Lib.hid hx
  have HL := Lib.hid hl
  have e0 := (Only.refl Nil w).alloc (.cells #[Value.pointer (some ⟨B, 0, none⟩)] 35)
  have HP := Lib.hid (h.keep e0)
  have HO := Lib.hid e0
  have HR := Lib.hid (Row.new w 35 #[Value.pointer (some ⟨B, 0, none⟩)])
  clear h hl hx e0
  go_enter Tryz.func22, Tryz.ntmps22
  go_upto_region 1 with (fail)
  generalize w.alloc (.cells #[Value.pointer (some ⟨B, 0, none⟩)] 35) = w1 at *
  generalize w.heap.size = gs at *
  refine wp_region_phase (n := 11) 10 (fun w => w.cell? ⟨gs, 0, none⟩ = some (Value.pointer (some ⟨B, 0, none⟩)) ∧ w.cell? ⟨B, 4, none⟩ = some (.int .i64 (4)) ∧ w.cell? ⟨B, 5, none⟩ = some (.int .i64 (ln))) rfl (by kernel_rfl) ⟨HR.out.cell_ (i := 0) rfl, by rw [← H1.out]; exact HP.out.row.cell_ (i := 4) rfl, by rw [← H2.out]; exact HP.out.row.cell_ (i := 5) rfl⟩ (fun hHeld => ?_)
  have HP1 := Lib.hid (HP.out.keep (Only.refl Nil w1).drew)
  have HR1 := Lib.hid HR.out.drew
  have HO1 := Lib.hid HO.out.drew
  clear HP HR HO
  generalize w1.drew = w2 at *
  refine mpt 0 rfl (Value.pointer (some ⟨B, 0, none⟩)) (fun w hSw => ?_) ?_
  · (try dsimp only at hSw)
    go_split_ands
    go_simp
  (try simp only [Act.put, k1, k2, k3])
  refine mpa 1 rfl (Value.pointer (some ⟨B, 0, none⟩)) (fun w => ?_) ?_
  · go_simp
  (try simp only [Act.put, k1, k2, k3])
  refine mpa 2 rfl (.pointer (some ⟨B, 4, none⟩)) (fun w => ?_) ?_
  · go_simp
  (try simp only [Act.put, k1, k2, k3])
  refine mpa 3 rfl (.pointer (some ⟨B, 4, none⟩)) (fun w => ?_) ?_
  · go_simp
  (try simp only [Act.put, k1, k2, k3])
  refine mpt 4 rfl (.int .i64 (4)) (fun w hSw => ?_) ?_
  · (try dsimp only at hSw)
    go_split_ands
    go_simp
  (try simp only [Act.put, k1, k2, k3])
  refine mpt 5 rfl (Value.pointer (some ⟨B, 0, none⟩)) (fun w hSw => ?_) ?_
  · (try dsimp only at hSw)
    go_split_ands
    go_simp
  (try simp only [Act.put, k1, k2, k3])
  refine mpa 6 rfl (Value.pointer (some ⟨B, 0, none⟩)) (fun w => ?_) ?_
  · go_simp
  (try simp only [Act.put, k1, k2, k3])
  refine mpa 7 rfl (.pointer (some ⟨B, 4, none⟩)) (fun w => ?_) ?_
  · go_simp
  (try simp only [Act.put, k1, k2, k3])
  refine mpa 8 rfl (.pointer (some ⟨B, 5, none⟩)) (fun w => ?_) ?_
  · go_simp
  (try simp only [Act.put, k1, k2, k3])
  refine mpt 9 rfl (.int .i64 (ln)) (fun w hSw => ?_) ?_
  · (try dsimp only at hSw)
    go_split_ands
    go_simp
  (try simp only [Act.put, k1, k2, k3])
  refine mpc 10 rfl (by kernel_rfl) (by rfl) (fun K hK => ?_)
  go_simp
  refine hK.out _ _ (.inl (by kernel_rfl)) ?_
  clear hK K
  (try simp only [Act.put, k1, k2, k3])
  refine wpAnyP_done (by kernel_rfl) ?_ _
  clear hHeld
  have b0 : w2.cell? ⟨gs, 0, none⟩ = some (Value.pointer (some ⟨B, 0, none⟩)) := HR1.out.cell_ (i := 0) rfl
  go_wp2
  go_ret
  exact ⟨rfl, HO1.out⟩
set_option maxHeartbeats 1000000 in
theorem stepOf_no7 (B : Nat) (p A : Option Addr) (cp : Nat) (nv : Value) (r : LS) (w : World) (h : RunP w B p A cp nv r) (hl : r.ns.length ≤ 900) (hx : Words r.xs) (h1 : r.op = 7) (n0 : ¬ r.line = 0) (n1 : ¬ r.line = 1) (n2 : ¬ r.line = 2) (n3 : ¬ r.line = 3) : Calls Tryz.prog 22 #[Value.pointer (some ⟨B, 0, none⟩)] w fun e w' => e = .returned .nilFunc ∧ Only Nil w w' := by
  have H1 := Lib.hid h1
  clear h1
  obtain ⟨ln, H2⟩ : ∃ ln, Hid (r.line = ln) := ⟨_, Lib.hid rfl⟩
  rw [H2.out] at n0 n1 n2 n3
  have HX := Lib.hid hx
  have HL := Lib.hid hl
  have e0 := (Only.refl Nil w).alloc (.cells #[Value.pointer (some ⟨B, 0, none⟩)] 35)
  have HP := Lib.hid (h.keep e0)
  have HO := Lib.hid e0
  have HR := Lib.hid (Row.new w 35 #[Value.pointer (some ⟨B, 0, none⟩)])
  clear h hl hx e0
  go_enter Tryz.func22, Tryz.ntmps22
  go_upto_region 1 with (fail)
  generalize w.alloc (.cells #[Value.pointer (some ⟨B, 0, none⟩)] 35) = w1 at *
  generalize w.heap.size = gs at *
  refine wp_region_phase (n := 11) 10 (fun w => w.cell? ⟨gs, 0, none⟩ = some (Value.pointer (some ⟨B, 0, none⟩)) ∧ w.cell? ⟨B, 4, none⟩ = some (.int .i64 (7)) ∧ w.cell? ⟨B, 5, none⟩ = some (.int .i64 (ln))) rfl (by kernel_rfl) ⟨HR.out.cell_ (i := 0) rfl, by rw [← H1.out]; exact HP.out.row.cell_ (i := 4) rfl, by rw [← H2.out]; exact HP.out.row.cell_ (i := 5) rfl⟩ (fun hHeld => ?_)
  have HP1 := Lib.hid (HP.out.keep (Only.refl Nil w1).drew)
  have HR1 := Lib.hid HR.out.drew
  have HO1 := Lib.hid HO.out.drew
  clear HP HR HO
  generalize w1.drew = w2 at *
  refine mpt 0 rfl (Value.pointer (some ⟨B, 0, none⟩)) (fun w hSw => ?_) ?_
  · (try dsimp only at hSw)
    go_split_ands
    go_simp
  (try simp only [Act.put, k1, k2, k3])
  refine mpa 1 rfl (Value.pointer (some ⟨B, 0, none⟩)) (fun w => ?_) ?_
  · go_simp
  (try simp only [Act.put, k1, k2, k3])
  refine mpa 2 rfl (.pointer (some ⟨B, 4, none⟩)) (fun w => ?_) ?_
  · go_simp
  (try simp only [Act.put, k1, k2, k3])
  refine mpa 3 rfl (.pointer (some ⟨B, 4, none⟩)) (fun w => ?_) ?_
  · go_simp
  (try simp only [Act.put, k1, k2, k3])
  refine mpt 4 rfl (.int .i64 (7)) (fun w hSw => ?_) ?_
  · (try dsimp only at hSw)
    go_split_ands
    go_simp
  (try simp only [Act.put, k1, k2, k3])
  refine mpt 5 rfl (Value.pointer (some ⟨B, 0, none⟩)) (fun w hSw => ?_) ?_
  · (try dsimp only at hSw)
    go_split_ands
    go_simp
  (try simp only [Act.put, k1, k2, k3])
  refine mpa 6 rfl (Value.pointer (some ⟨B, 0, none⟩)) (fun w => ?_) ?_
  · go_simp
  (try simp only [Act.put, k1, k2, k3])
  refine mpa 7 rfl (.pointer (some ⟨B, 4, none⟩)) (fun w => ?_) ?_
  · go_simp
  (try simp only [Act.put, k1, k2, k3])
  refine mpa 8 rfl (.pointer (some ⟨B, 5, none⟩)) (fun w => ?_) ?_
  · go_simp
  (try simp only [Act.put, k1, k2, k3])
  refine mpt 9 rfl (.int .i64 (ln)) (fun w hSw => ?_) ?_
  · (try dsimp only at hSw)
    go_split_ands
    go_simp
  (try simp only [Act.put, k1, k2, k3])
  refine mpc 10 rfl (by kernel_rfl) (by rfl) (fun K hK => ?_)
  go_simp
  refine hK.out _ _ (.inl (by kernel_rfl)) ?_
  clear hK K
  (try simp only [Act.put, k1, k2, k3])
  refine wpAnyP_done (by kernel_rfl) ?_ _
  clear hHeld
  have b0 : w2.cell? ⟨gs, 0, none⟩ = some (Value.pointer (some ⟨B, 0, none⟩)) := HR1.out.cell_ (i := 0) rfl
  go_wp2
  go_ret
  exact ⟨rfl, HO1.out⟩
end Go.Proofs.YtdmpaoajcnjbaaaGreat
set_option linter.unusedVariables false
set_option linter.unusedSimpArgs false
namespace Go.Proofs.YtdmpaoajcnjbaaaGreat
open Go.RowKit
set_option maxHeartbeats 1000000 in
theorem stepOf_no2 (B : Nat) (p A : Option Addr) (cp : Nat) (nv : Value) (r : LS) (w : World) (h : RunP w B p A cp nv r) (hl : r.ns.length ≤ 900) (hx : Words r.xs) (h1 : r.op = 2) (n0 : ¬ r.line = 0) : Calls Tryz.prog 22 #[Value.pointer (some ⟨B, 0, none⟩)] w fun e w' => e = .returned .nilFunc ∧ Only Nil w w' := by
  have H1 := Lib.hid h1
  clear h1
  obtain ⟨ln, H2⟩ : ∃ ln, Hid (r.line = ln) := ⟨_, Lib.hid rfl⟩
  rw [H2.out] at n0
  have HX := Lib.hid hx
  have HL := Lib.hid hl
  have e0 := (Only.refl Nil w).alloc (.cells #[Value.pointer (some ⟨B, 0, none⟩)] 35)
  have HP := Lib.hid (h.keep e0)
  have HO := Lib.hid e0
  have HR := Lib.hid (Row.new w 35 #[Value.pointer (some ⟨B, 0, none⟩)])
  clear h hl hx e0
  go_enter Tryz.func22, Tryz.ntmps22
  go_upto_region 1 with (fail)
  generalize w.alloc (.cells #[Value.pointer (some ⟨B, 0, none⟩)] 35) = w1 at *
  generalize w.heap.size = gs at *
  refine wp_region_phase (n := 11) 10 (fun w => w.cell? ⟨gs, 0, none⟩ = some (Value.pointer (some ⟨B, 0, none⟩)) ∧ w.cell? ⟨B, 4, none⟩ = some (.int .i64 (2)) ∧ w.cell? ⟨B, 5, none⟩ = some (.int .i64 (ln))) rfl (by kernel_rfl) ⟨HR.out.cell_ (i := 0) rfl, by rw [← H1.out]; exact HP.out.row.cell_ (i := 4) rfl, by rw [← H2.out]; exact HP.out.row.cell_ (i := 5) rfl⟩ (fun hHeld => ?_)
  have HP1 := Lib.hid (HP.out.keep (Only.refl Nil w1).drew)
  have HR1 := Lib.hid HR.out.drew
  have HO1 := Lib.hid HO.out.drew
  clear HP HR HO
  generalize w1.drew = w2 at *
  refine mpt 0 rfl (Value.pointer (some ⟨B, 0, none⟩)) (fun w hSw => ?_) ?_
  · (try dsimp only at hSw)
    go_split_ands
    go_simp
  (try simp only [Act.put, k1, k2, k3])
  refine mpa 1 rfl (Value.pointer (some ⟨B, 0, none⟩)) (fun w => ?_) ?_
  · go_simp
  (try simp only [Act.put, k1, k2, k3])
  refine mpa 2 rfl (.pointer (some ⟨B, 4, none⟩)) (fun w => ?_) ?_
  · go_simp
  (try simp only [Act.put, k1, k2, k3])
  refine mpa 3 rfl (.pointer (some ⟨B, 4, none⟩)) (fun w => ?_) ?_
  · go_simp
  (try simp only [Act.put, k1, k2, k3])
  refine mpt 4 rfl (.int .i64 (2)) (fun w hSw => ?_) ?_
  · (try dsimp only at hSw)
    go_split_ands
    go_simp
  (try simp only [Act.put, k1, k2, k3])
  refine mpt 5 rfl (Value.pointer (some ⟨B, 0, none⟩)) (fun w hSw => ?_) ?_
  · (try dsimp only at hSw)
    go_split_ands
    go_simp
  (try simp only [Act.put, k1, k2, k3])
  refine mpa 6 rfl (Value.pointer (some ⟨B, 0, none⟩)) (fun w => ?_) ?_
  · go_simp
  (try simp only [Act.put, k1, k2, k3])
  refine mpa 7 rfl (.pointer (some ⟨B, 4, none⟩)) (fun w => ?_) ?_
  · go_simp
  (try simp only [Act.put, k1, k2, k3])
  refine mpa 8 rfl (.pointer (some ⟨B, 5, none⟩)) (fun w => ?_) ?_
  · go_simp
  (try simp only [Act.put, k1, k2, k3])
  refine mpt 9 rfl (.int .i64 (ln)) (fun w hSw => ?_) ?_
  · (try dsimp only at hSw)
    go_split_ands
    go_simp
  (try simp only [Act.put, k1, k2, k3])
  refine mpc 10 rfl (by kernel_rfl) (by rfl) (fun K hK => ?_)
  go_simp
  refine hK.out _ _ (.inl (by kernel_rfl)) ?_
  clear hK K
  (try simp only [Act.put, k1, k2, k3])
  refine wpAnyP_done (by kernel_rfl) ?_ _
  clear hHeld
  have b0 : w2.cell? ⟨gs, 0, none⟩ = some (Value.pointer (some ⟨B, 0, none⟩)) := HR1.out.cell_ (i := 0) rfl
  go_wp2
  go_ret
  exact ⟨rfl, HO1.out⟩
set_option maxHeartbeats 1000000 in
theorem stepOf_no5 (B : Nat) (p A : Option Addr) (cp : Nat) (nv : Value) (r : LS) (w : World) (h : RunP w B p A cp nv r) (hl : r.ns.length ≤ 900) (hx : Words r.xs) (h1 : r.op = 5) (n0 : ¬ r.line = 0) (n1 : ¬ r.line = 1) (n2 : ¬ r.line = 2) (n3 : ¬ r.line = 3) : Calls Tryz.prog 22 #[Value.pointer (some ⟨B, 0, none⟩)] w fun e w' => e = .returned .nilFunc ∧ Only Nil w w' := by
  have H1 := Lib.hid h1
  clear h1
  obtain ⟨ln, H2⟩ : ∃ ln, Hid (r.line = ln) := ⟨_, Lib.hid rfl⟩
  rw [H2.out] at n0 n1 n2 n3
  have HX := Lib.hid hx
  have HL := Lib.hid hl
  have e0 := (Only.refl Nil w).alloc (.cells #[Value.pointer (some ⟨B, 0, none⟩)] 35)
  have HP := Lib.hid (h.keep e0)
  have HO := Lib.hid e0
  have HR := Lib.hid (Row.new w 35 #[Value.pointer (some ⟨B, 0, none⟩)])
  clear h hl hx e0
  go_enter Tryz.func22, Tryz.ntmps22
  go_upto_region 1 with (fail)
  generalize w.alloc (.cells #[Value.pointer (some ⟨B, 0, none⟩)] 35) = w1 at *
  generalize w.heap.size = gs at *
  refine wp_region_phase (n := 11) 10 (fun w => w.cell? ⟨gs, 0, none⟩ = some (Value.pointer (some ⟨B, 0, none⟩)) ∧ w.cell? ⟨B, 4, none⟩ = some (.int .i64 (5)) ∧ w.cell? ⟨B, 5, none⟩ = some (.int .i64 (ln))) rfl (by kernel_rfl) ⟨HR.out.cell_ (i := 0) rfl, by rw [← H1.out]; exact HP.out.row.cell_ (i := 4) rfl, by rw [← H2.out]; exact HP.out.row.cell_ (i := 5) rfl⟩ (fun hHeld => ?_)
  have HP1 := Lib.hid (HP.out.keep (Only.refl Nil w1).drew)
  have HR1 := Lib.hid HR.out.drew
  have HO1 := Lib.hid HO.out.drew
  clear HP HR HO
  generalize w1.drew = w2 at *
  refine mpt 0 rfl (Value.pointer (some ⟨B, 0, none⟩)) (fun w hSw => ?_) ?_
  · (try dsimp only at hSw)
    go_split_ands
    go_simp
  (try simp only [Act.put, k1, k2, k3])
  refine mpa 1 rfl (Value.pointer (some ⟨B, 0, none⟩)) (fun w => ?_) ?_
  · go_simp
  (try simp only [Act.put, k1, k2, k3])
  refine mpa 2 rfl (.pointer (some ⟨B, 4, none⟩)) (fun w => ?_) ?_
  · go_simp
  (try simp only [Act.put, k1, k2, k3])
  refine mpa 3 rfl (.pointer (some ⟨B, 4, none⟩)) (fun w => ?_) ?_
  · go_simp
  (try simp only [Act.put, k1, k2, k3])
  refine mpt 4 rfl (.int .i64 (5)) (fun w hSw => ?_) ?_
  · (try dsimp only at hSw)
    go_split_ands
    go_simp
  (try simp only [Act.put, k1, k2, k3])
  refine mpt 5 rfl (Value.pointer (some ⟨B, 0, none⟩)) (fun w hSw => ?_) ?_
  · (try dsimp only at hSw)
    go_split_ands
    go_simp
  (try simp only [Act.put, k1, k2, k3])
  refine mpa 6 rfl (Value.pointer (some ⟨B, 0, none⟩)) (fun w => ?_) ?_
  · go_simp
  (try simp only [Act.put, k1, k2, k3])
  refine mpa 7 rfl (.pointer (some ⟨B, 4, none⟩)) (fun w => ?_) ?_
  · go_simp
  (try simp only [Act.put, k1, k2, k3])
  refine mpa 8 rfl (.pointer (some ⟨B, 5, none⟩)) (fun w => ?_) ?_
  · go_simp
  (try simp only [Act.put, k1, k2, k3])
  refine mpt 9 rfl (.int .i64 (ln)) (fun w hSw => ?_) ?_
  · (try dsimp only at hSw)
    go_split_ands
    go_simp
  (try simp only [Act.put, k1, k2, k3])
  refine mpc 10 rfl (by kernel_rfl) (by rfl) (fun K hK => ?_)
  go_simp
  refine hK.out _ _ (.inl (by kernel_rfl)) ?_
  clear hK K
  (try simp only [Act.put, k1, k2, k3])
  refine wpAnyP_done (by kernel_rfl) ?_ _
  clear hHeld
  have b0 : w2.cell? ⟨gs, 0, none⟩ = some (Value.pointer (some ⟨B, 0, none⟩)) := HR1.out.cell_ (i := 0) rfl
  go_wp2
  go_ret
  exact ⟨rfl, HO1.out⟩
set_option maxHeartbeats 1000000 in
theorem stepOf_no8 (B : Nat) (p A : Option Addr) (cp : Nat) (nv : Value) (r : LS) (w : World) (h : RunP w B p A cp nv r) (hl : r.ns.length ≤ 900) (hx : Words r.xs) (h1 : r.op = 8) (n0 : ¬ r.line = 0) : Calls Tryz.prog 22 #[Value.pointer (some ⟨B, 0, none⟩)] w fun e w' => e = .returned .nilFunc ∧ Only Nil w w' := by
  have H1 := Lib.hid h1
  clear h1
  obtain ⟨ln, H2⟩ : ∃ ln, Hid (r.line = ln) := ⟨_, Lib.hid rfl⟩
  rw [H2.out] at n0
  have HX := Lib.hid hx
  have HL := Lib.hid hl
  have e0 := (Only.refl Nil w).alloc (.cells #[Value.pointer (some ⟨B, 0, none⟩)] 35)
  have HP := Lib.hid (h.keep e0)
  have HO := Lib.hid e0
  have HR := Lib.hid (Row.new w 35 #[Value.pointer (some ⟨B, 0, none⟩)])
  clear h hl hx e0
  go_enter Tryz.func22, Tryz.ntmps22
  go_upto_region 1 with (fail)
  generalize w.alloc (.cells #[Value.pointer (some ⟨B, 0, none⟩)] 35) = w1 at *
  generalize w.heap.size = gs at *
  refine wp_region_phase (n := 11) 10 (fun w => w.cell? ⟨gs, 0, none⟩ = some (Value.pointer (some ⟨B, 0, none⟩)) ∧ w.cell? ⟨B, 4, none⟩ = some (.int .i64 (8)) ∧ w.cell? ⟨B, 5, none⟩ = some (.int .i64 (ln))) rfl (by kernel_rfl) ⟨HR.out.cell_ (i := 0) rfl, by rw [← H1.out]; exact HP.out.row.cell_ (i := 4) rfl, by rw [← H2.out]; exact HP.out.row.cell_ (i := 5) rfl⟩ (fun hHeld => ?_)
  have HP1 := Lib.hid (HP.out.keep (Only.refl Nil w1).drew)
  have HR1 := Lib.hid HR.out.drew
  have HO1 := Lib.hid HO.out.drew
  clear HP HR HO
  generalize w1.drew = w2 at *
  refine mpt 0 rfl (Value.pointer (some ⟨B, 0, none⟩)) (fun w hSw => ?_) ?_
  · (try dsimp only at hSw)
    go_split_ands
    go_simp
  (try simp only [Act.put, k1, k2, k3])
  refine mpa 1 rfl (Value.pointer (some ⟨B, 0, none⟩)) (fun w => ?_) ?_
  · go_simp
  (try simp only [Act.put, k1, k2, k3])
  refine mpa 2 rfl (.pointer (some ⟨B, 4, none⟩)) (fun w => ?_) ?_
  · go_simp
  (try simp only [Act.put, k1, k2, k3])
  refine mpa 3 rfl (.pointer (some ⟨B, 4, none⟩)) (fun w => ?_) ?_
  · go_simp
  (try simp only [Act.put, k1, k2, k3])
  refine mpt 4 rfl (.int .i64 (8)) (fun w hSw => ?_) ?_
  · (try dsimp only at hSw)
    go_split_ands
    go_simp
  (try simp only [Act.put, k1, k2, k3])
  refine mpt 5 rfl (Value.pointer (some ⟨B, 0, none⟩)) (fun w hSw => ?_) ?_
  · (try dsimp only at hSw)
    go_split_ands
    go_simp
  (try simp only [Act.put, k1, k2, k3])
  refine mpa 6 rfl (Value.pointer (some ⟨B, 0, none⟩)) (fun w => ?_) ?_
  · go_simp
  (try simp only [Act.put, k1, k2, k3])
  refine mpa 7 rfl (.pointer (some ⟨B, 4, none⟩)) (fun w => ?_) ?_
  · go_simp
  (try simp only [Act.put, k1, k2, k3])
  refine mpa 8 rfl (.pointer (some ⟨B, 5, none⟩)) (fun w => ?_) ?_
  · go_simp
  (try simp only [Act.put, k1, k2, k3])
  refine mpt 9 rfl (.int .i64 (ln)) (fun w hSw => ?_) ?_
  · (try dsimp only at hSw)
    go_split_ands
    go_simp
  (try simp only [Act.put, k1, k2, k3])
  refine mpc 10 rfl (by kernel_rfl) (by rfl) (fun K hK => ?_)
  go_simp
  refine hK.out _ _ (.inl (by kernel_rfl)) ?_
  clear hK K
  (try simp only [Act.put, k1, k2, k3])
  refine wpAnyP_done (by kernel_rfl) ?_ _
  clear hHeld
  have b0 : w2.cell? ⟨gs, 0, none⟩ = some (Value.pointer (some ⟨B, 0, none⟩)) := HR1.out.cell_ (i := 0) rfl
  go_wp2
  go_ret
  exact ⟨rfl, HO1.out⟩
end Go.Proofs.YtdmpaoajcnjbaaaGreat
set_option linter.unusedVariables false
set_option linter.unusedSimpArgs false
namespace Go.Proofs.YtdmpaoajcnjbaaaGreat
open Go.RowKit
set_option maxHeartbeats 1000000 in
theorem stepOf_no3 (B : Nat) (p A : Option Addr) (cp : Nat) (nv : Value) (r : LS) (w : World) (h : RunP w B p A cp nv r) (hl : r.ns.length ≤ 900) (hx : Words r.xs) (h1 : r.op = 3) (n0 : ¬ r.line = 0) (n1 : ¬ r.line = 1) : Calls Tryz.prog 22 #[Value.pointer (some ⟨B, 0, none⟩)] w fun e w' => e = .returned .nilFunc ∧ Only Nil w w' := by
  have H1 := Lib.hid h1
  clear h1
  obtain ⟨ln, H2⟩ : ∃ ln, Hid (r.line = ln) := ⟨_, Lib.hid rfl⟩
  rw [H2.out] at n0 n1
  have HX := Lib.hid hx
  have HL := Lib.hid hl
  have e0 := (Only.refl Nil w).alloc (.cells #[Value.pointer (some ⟨B, 0, none⟩)] 35)
  have HP := Lib.hid (h.keep e0)
  have HO := Lib.hid e0
  have HR := Lib.hid (Row.new w 35 #[Value.pointer (some ⟨B, 0, none⟩)])
  clear h hl hx e0
  go_enter Tryz.func22, Tryz.ntmps22
  go_upto_region 1 with (fail)
  generalize w.alloc (.cells #[Value.pointer (some ⟨B, 0, none⟩)] 35) = w1 at *
  generalize w.heap.size = gs at *
  refine wp_region_phase (n := 11) 10 (fun w => w.cell? ⟨gs, 0, none⟩ = some (Value.pointer (some ⟨B, 0, none⟩)) ∧ w.cell? ⟨B, 4, none⟩ = some (.int .i64 (3)) ∧ w.cell? ⟨B, 5, none⟩ = some (.int .i64 (ln))) rfl (by kernel_rfl) ⟨HR.out.cell_ (i := 0) rfl, by rw [← H1.out]; exact HP.out.row.cell_ (i := 4) rfl, by rw [← H2.out]; exact HP.out.row.cell_ (i := 5) rfl⟩ (fun hHeld => ?_)
  have HP1 := Lib.hid (HP.out.keep (Only.refl Nil w1).drew)
  have HR1 := Lib.hid HR.out.drew
  have HO1 := Lib.hid HO.out.drew
  clear HP HR HO
  generalize w1.drew = w2 at *
  refine mpt 0 rfl (Value.pointer (some ⟨B, 0, none⟩)) (fun w hSw => ?_) ?_
  · (try dsimp only at hSw)
    go_split_ands
    go_simp
  (try simp only [Act.put, k1, k2, k3])
  refine mpa 1 rfl (Value.pointer (some ⟨B, 0, none⟩)) (fun w => ?_) ?_
  · go_simp
  (try simp only [Act.put, k1, k2, k3])
  refine mpa 2 rfl (.pointer (some ⟨B, 4, none⟩)) (fun w => ?_) ?_
  · go_simp
  (try simp only [Act.put, k1, k2, k3])
  refine mpa 3 rfl (.pointer (some ⟨B, 4, none⟩)) (fun w => ?_) ?_
  · go_simp
  (try simp only [Act.put, k1, k2, k3])
  refine mpt 4 rfl (.int .i64 (3)) (fun w hSw => ?_) ?_
  · (try dsimp only at hSw)
    go_split_ands
    go_simp
  (try simp only [Act.put, k1, k2, k3])
  refine mpt 5 rfl (Value.pointer (some ⟨B, 0, none⟩)) (fun w hSw => ?_) ?_
  · (try dsimp only at hSw)
    go_split_ands
    go_simp
  (try simp only [Act.put, k1, k2, k3])
  refine mpa 6 rfl (Value.pointer (some ⟨B, 0, none⟩)) (fun w => ?_) ?_
  · go_simp
  (try simp only [Act.put, k1, k2, k3])
  refine mpa 7 rfl (.pointer (some ⟨B, 4, none⟩)) (fun w => ?_) ?_
  · go_simp
  (try simp only [Act.put, k1, k2, k3])
  refine mpa 8 rfl (.pointer (some ⟨B, 5, none⟩)) (fun w => ?_) ?_
  · go_simp
  (try simp only [Act.put, k1, k2, k3])
  refine mpt 9 rfl (.int .i64 (ln)) (fun w hSw => ?_) ?_
  · (try dsimp only at hSw)
    go_split_ands
    go_simp
  (try simp only [Act.put, k1, k2, k3])
  refine mpc 10 rfl (by kernel_rfl) (by rfl) (fun K hK => ?_)
  go_simp
  refine hK.out _ _ (.inl (by kernel_rfl)) ?_
  clear hK K
  (try simp only [Act.put, k1, k2, k3])
  refine wpAnyP_done (by kernel_rfl) ?_ _
  clear hHeld
  have b0 : w2.cell? ⟨gs, 0, none⟩ = some (Value.pointer (some ⟨B, 0, none⟩)) := HR1.out.cell_ (i := 0) rfl
  go_wp2
  go_ret
  exact ⟨rfl, HO1.out⟩
set_option maxHeartbeats 1000000 in
theorem stepOf_no6 (B : Nat) (p A : Option Addr) (cp : Nat) (nv : Value) (r : LS) (w : World) (h : RunP w B p A cp nv r) (hl : r.ns.length ≤ 900) (hx : Words r.xs) (h1 : r.op = 6) (n0 : ¬ r.line = 0) (n1 : ¬ r.line = 1) (n2 : ¬ r.line = 2) : Calls Tryz.prog 22 #[Value.pointer (some ⟨B, 0, none⟩)] w fun e w' => e = .returned .nilFunc ∧ Only Nil w w' := by
  have H1 := Lib.hid h1
  clear h1
  obtain ⟨ln, H2⟩ : ∃ ln, Hid (r.line = ln) := ⟨_, Lib.hid rfl⟩
  rw [H2.out] at n0 n1 n2
  have HX := Lib.hid hx
  have HL := Lib.hid hl
  have e0 := (Only.refl Nil w).alloc (.cells #[Value.pointer (some ⟨B, 0, none⟩)] 35)
  have HP := Lib.hid (h.keep e0)
  have HO := Lib.hid e0
  have HR := Lib.hid (Row.new w 35 #[Value.pointer (some ⟨B, 0, none⟩)])
  clear h hl hx e0
  go_enter Tryz.func22, Tryz.ntmps22
  go_upto_region 1 with (fail)
  generalize w.alloc (.cells #[Value.pointer (some ⟨B, 0, none⟩)] 35) = w1 at *
  generalize w.heap.size = gs at *
  refine wp_region_phase (n := 11) 10 (fun w => w.cell? ⟨gs, 0, none⟩ = some (Value.pointer (some ⟨B, 0, none⟩)) ∧ w.cell? ⟨B, 4, none⟩ = some (.int .i64 (6)) ∧ w.cell? ⟨B, 5, none⟩ = some (.int .i64 (ln))) rfl (by kernel_rfl) ⟨HR.out.cell_ (i := 0) rfl, by rw [← H1.out]; exact HP.out.row.cell_ (i := 4) rfl, by rw [← H2.out]; exact HP.out.row.cell_ (i := 5) rfl⟩ (fun hHeld => ?_)
  have HP1 := Lib.hid (HP.out.keep (Only.refl Nil w1).drew)
  have HR1 := Lib.hid HR.out.drew
  have HO1 := Lib.hid HO.out.drew
  clear HP HR HO
  generalize w1.drew = w2 at *
  refine mpt 0 rfl (Value.pointer (some ⟨B, 0, none⟩)) (fun w hSw => ?_) ?_
  · (try dsimp only at hSw)
    go_split_ands
    go_simp
  (try simp only [Act.put, k1, k2, k3])
  refine mpa 1 rfl (Value.pointer (some ⟨B, 0, none⟩)) (fun w => ?_) ?_
  · go_simp
  (try simp only [Act.put, k1, k2, k3])
  refine mpa 2 rfl (.pointer (some ⟨B, 4, none⟩)) (fun w => ?_) ?_
  · go_simp
  (try simp only [Act.put, k1, k2, k3])
  refine mpa 3 rfl (.pointer (some ⟨B, 4, none⟩)) (fun w => ?_) ?_
  · go_simp
  (try simp only [Act.put, k1, k2, k3])
  refine mpt 4 rfl (.int .i64 (6)) (fun w hSw => ?_) ?_
  · (try dsimp only at hSw)
    go_split_ands
    go_simp
  (try simp only [Act.put, k1, k2, k3])
  refine mpt 5 rfl (Value.pointer (some ⟨B, 0, none⟩)) (fun w hSw => ?_) ?_
  · (try dsimp only at hSw)
    go_split_ands
    go_simp
  (try simp only [Act.put, k1, k2, k3])
  refine mpa 6 rfl (Value.pointer (some ⟨B, 0, none⟩)) (fun w => ?_) ?_
  · go_simp
  (try simp only [Act.put, k1, k2, k3])
  refine mpa 7 rfl (.pointer (some ⟨B, 4, none⟩)) (fun w => ?_) ?_
  · go_simp
  (try simp only [Act.put, k1, k2, k3])
  refine mpa 8 rfl (.pointer (some ⟨B, 5, none⟩)) (fun w => ?_) ?_
  · go_simp
  (try simp only [Act.put, k1, k2, k3])
  refine mpt 9 rfl (.int .i64 (ln)) (fun w hSw => ?_) ?_
  · (try dsimp only at hSw)
    go_split_ands
    go_simp
  (try simp only [Act.put, k1, k2, k3])
  refine mpc 10 rfl (by kernel_rfl) (by rfl) (fun K hK => ?_)
  go_simp
  refine hK.out _ _ (.inl (by kernel_rfl)) ?_
  clear hK K
  (try simp only [Act.put, k1, k2, k3])
  refine wpAnyP_done (by kernel_rfl) ?_ _
  clear hHeld
  have b0 : w2.cell? ⟨gs, 0, none⟩ = some (Value.pointer (some ⟨B, 0, none⟩)) := HR1.out.cell_ (i := 0) rfl
  go_wp2
  go_ret
  exact ⟨rfl, HO1.out⟩
set_option maxHeartbeats 1000000 in
theorem stepOf_no9 (B : Nat) (p A : Option Addr) (cp : Nat) (nv : Value) (r : LS) (w : World) (h : RunP w B p A cp nv r) (hl : r.ns.length ≤ 900) (hx : Words r.xs) (n1 : ¬ r.op = 1) (n2 : ¬ r.op = 2) (n3 : ¬ r.op = 3) (n4 : ¬ r.op = 4) (n5 : ¬ r.op = 5) (n6 : ¬ r.op = 6) (n7 : ¬ r.op = 7) (n8 : ¬ r.op = 8) : Calls Tryz.prog 22 #[Value.pointer (some ⟨B, 0, none⟩)] w fun e w' => e = .returned .nilFunc ∧ Only Nil w w' := by
  obtain ⟨ol, H1⟩ : ∃ ol, Hid (r.op = ol) := ⟨_, Lib.hid rfl⟩
  rw [H1.out] at n1 n2 n3 n4 n5 n6 n7 n8
  obtain ⟨ln, H2⟩ : ∃ ln, Hid (r.line = ln) := ⟨_, Lib.hid rfl⟩
  have HX := Lib.hid hx
  have HL := Lib.hid hl
  have e0 := (Only.refl Nil w).alloc (.cells #[Value.pointer (some ⟨B, 0, none⟩)] 35)
  have HP := Lib.hid (h.keep e0)
  have HO := Lib.hid e0
  have HR := Lib.hid (Row.new w 35 #[Value.pointer (some ⟨B, 0, none⟩)])
  clear h hl hx e0
  go_enter Tryz.func22, Tryz.ntmps22
  go_upto_region 1 with (fail)
  generalize w.alloc (.cells #[Value.pointer (some ⟨B, 0, none⟩)] 35) = w1 at *
  generalize w.heap.size = gs at *
  refine wp_region_phase (n := 11) 10 (fun w => w.cell? ⟨gs, 0, none⟩ = some (Value.pointer (some ⟨B, 0, none⟩)) ∧ w.cell? ⟨B, 4, none⟩ = some (.int .i64 (ol)) ∧ w.cell? ⟨B, 5, none⟩ = some (.int .i64 (ln))) rfl (by kernel_rfl) ⟨HR.out.cell_ (i := 0) rfl, by rw [← H1.out]; exact HP.out.row.cell_ (i := 4) rfl, by rw [← H2.out]; exact HP.out.row.cell_ (i := 5) rfl⟩ (fun hHeld => ?_)
  have HP1 := Lib.hid (HP.out.keep (Only.refl Nil w1).drew)
  have HR1 := Lib.hid HR.out.drew
  have HO1 := Lib.hid HO.out.drew
  clear HP HR HO
  generalize w1.drew = w2 at *
  refine mpt 0 rfl (Value.pointer (some ⟨B, 0, none⟩)) (fun w hSw => ?_) ?_
  · (try dsimp only at hSw)
    go_split_ands
    go_simp
  (try simp only [Act.put, k1, k2, k3])
  refine mpa 1 rfl (Value.pointer (some ⟨B, 0, none⟩)) (fun w => ?_) ?_
  · go_simp
  (try simp only [Act.put, k1, k2, k3])
  refine mpa 2 rfl (.pointer (some ⟨B, 4, none⟩)) (fun w => ?_) ?_
  · go_simp
  (try simp only [Act.put, k1, k2, k3])
  refine mpa 3 rfl (.pointer (some ⟨B, 4, none⟩)) (fun w => ?_) ?_
  · go_simp
  (try simp only [Act.put, k1, k2, k3])
  refine mpt 4 rfl (.int .i64 (ol)) (fun w hSw => ?_) ?_
  · (try dsimp only at hSw)
    go_split_ands
    go_simp
  (try simp only [Act.put, k1, k2, k3])
  refine mpt 5 rfl (Value.pointer (some ⟨B, 0, none⟩)) (fun w hSw => ?_) ?_
  · (try dsimp only at hSw)
    go_split_ands
    go_simp
  (try simp only [Act.put, k1, k2, k3])
  refine mpa 6 rfl (Value.pointer (some ⟨B, 0, none⟩)) (fun w => ?_) ?_
  · go_simp
  (try simp only [Act.put, k1, k2, k3])
  refine mpa 7 rfl (.pointer (some ⟨B, 4, none⟩)) (fun w => ?_) ?_
  · go_simp
  (try simp only [Act.put, k1, k2, k3])
  refine mpa 8 rfl (.pointer (some ⟨B, 5, none⟩)) (fun w => ?_) ?_
  · go_simp
  (try simp only [Act.put, k1, k2, k3])
  refine mpt 9 rfl (.int .i64 (ln)) (fun w hSw => ?_) ?_
  · (try dsimp only at hSw)
    go_split_ands
    go_simp
  (try simp only [Act.put, k1, k2, k3])
  refine mpc 10 rfl (by kernel_rfl) (by rfl) (fun K hK => ?_)
  go_simp
  refine hK.out _ _ (.inl (by kernel_rfl)) ?_
  clear hK K
  (try simp only [Act.put, k1, k2, k3])
  refine wpAnyP_done (by kernel_rfl) ?_ _
  clear hHeld
  have b0 : w2.cell? ⟨gs, 0, none⟩ = some (Value.pointer (some ⟨B, 0, none⟩)) := HR1.out.cell_ (i := 0) rfl
  go_wp2
  go_ret
  exact ⟨rfl, HO1.out⟩
end Go.Proofs.YtdmpaoajcnjbaaaGreat
set_option linter.unusedVariables false
set_option linter.unusedSimpArgs false
namespace Go.Proofs.YtdmpaoajcnjbaaaGreat
open Go.RowKit
set_option maxRecDepth 100000 in
theorem neq_nilC (w : World) : (binOp .neq 1 .nilFunc .nilFunc).run Tryz.prog w = .ok (.bool false) w := by
  first | rfl | kernel_rfl
set_option maxRecDepth 100000 in
theorem neq_fnC (f : Fn) (first cap : Array Value) (w : World) : (binOp .neq 1 (.func f first cap) .nilFunc).run Tryz.prog w = .ok (.bool true) w := by
  first | rfl | kernel_rfl
theorem runs_FAR1 (B : Nat) (p A : Option Addr) (cp : Nat) (r' : LS) (w : World) (hs : Calls Tryz.prog 22 #[Value.pointer (some ⟨B, 0, none⟩)] w (Clo 69 B p A cp r' w)) : Calls Tryz.prog 8 #[Value.pointer (some ⟨B, 0, none⟩)] w (Done B p A cp w (.tuple #[]) r') := by
  have HS := Lib.hid hs
  clear hs
  have hn := neq_fnC
  go_enter Tryz.func8, Tryz.ntmps8
  go_wp2_with fail
  refine HS.out.mono ?_
  rintro e w1 ⟨caps, rfl, hO, hC⟩
  have HO := Lib.hid hO
  have HC := Lib.hid hC
  clear hO hC HS
  go_wp2_with fail
  refine HC.out.mono ?_
  rintro e w2 ⟨rfl, hO, nv2, hP⟩
  have HO2 := Lib.hid ((HO.out.mono (T := TurnB B A) (fun _ _ h => h.elim)).trans hO)
  have HP2 := Lib.hid hP
  clear hO hP HO HC
  go_wp2
  go_returns
  exact ⟨rfl, HO2.out, nv2, HP2.out⟩
theorem runs_FAW1 (B : Nat) (p A : Option Addr) (cp : Nat) (r' : LS) (w : World) (hs : Calls Tryz.prog 22 #[Value.pointer (some ⟨B, 0, none⟩)] w (Clo 74 B p A cp r' w)) : Calls Tryz.prog 8 #[Value.pointer (some ⟨B, 0, none⟩)] w (Done B p A cp w (.tuple #[]) r') := by
  have HS := Lib.hid hs
  clear hs
  have hn := neq_fnC
  go_enter Tryz.func8, Tryz.ntmps8
  go_wp2_with fail
  refine HS.out.mono ?_
  rintro e w1 ⟨caps, rfl, hO, hC⟩
  have HO := Lib.hid hO
  have HC := Lib.hid hC
  clear hO hC HS
  go_wp2_with fail
  refine HC.out.mono ?_
  rintro e w2 ⟨rfl, hO, nv2, hP⟩
  have HO2 := Lib.hid ((HO.out.mono (T := TurnB B A) (fun _ _ h => h.elim)).trans hO)
  have HP2 := Lib.hid hP
  clear hO hP HO HC
  go_wp2
  go_returns
  exact ⟨rfl, HO2.out, nv2, HP2.out⟩
theorem runs_FBACK1 (B : Nat) (p A : Option Addr) (cp : Nat) (r' : LS) (w : World) (hs : Calls Tryz.prog 22 #[Value.pointer (some ⟨B, 0, none⟩)] w (Clo 83 B p A cp r' w)) : Calls Tryz.prog 8 #[Value.pointer (some ⟨B, 0, none⟩)] w (Done B p A cp w (.tuple #[]) r') := by
  have HS := Lib.hid hs
  clear hs
  have hn := neq_fnC
  go_enter Tryz.func8, Tryz.ntmps8
  go_wp2_with fail
  refine HS.out.mono ?_
  rintro e w1 ⟨caps, rfl, hO, hC⟩
  have HO := Lib.hid hO
  have HC := Lib.hid hC
  clear hO hC HS
  go_wp2_with fail
  refine HC.out.mono ?_
  rintro e w2 ⟨rfl, hO, nv2, hP⟩
  have HO2 := Lib.hid ((HO.out.mono (T := TurnB B A) (fun _ _ h => h.elim)).trans hO)
  have HP2 := Lib.hid hP
  clear hO hP HO HC
  go_wp2
  go_returns
  exact ⟨rfl, HO2.out, nv2, HP2.out⟩
theorem runs_FCLAIM1 (B : Nat) (p A : Option Addr) (cp : Nat) (r' : LS) (w : World) (hs : Calls Tryz.prog 22 #[Value.pointer (some ⟨B, 0, none⟩)] w (Clo 80 B p A cp r' w)) : Calls Tryz.prog 8 #[Value.pointer (some ⟨B, 0, none⟩)] w (Done B p A cp w (.tuple #[]) r') := by
  have HS := Lib.hid hs
  clear hs
  have hn := neq_fnC
  go_enter Tryz.func8, Tryz.ntmps8
  go_wp2_with fail
  refine HS.out.mono ?_
  rintro e w1 ⟨caps, rfl, hO, hC⟩
  have HO := Lib.hid hO
  have HC := Lib.hid hC
  clear hO hC HS
  go_wp2_with fail
  refine HC.out.mono ?_
  rintro e w2 ⟨rfl, hO, nv2, hP⟩
  have HO2 := Lib.hid ((HO.out.mono (T := TurnB B A) (fun _ _ h => h.elim)).trans hO)
  have HP2 := Lib.hid hP
  clear hO hP HO HC
  go_wp2
  go_returns
  exact ⟨rfl, HO2.out, nv2, HP2.out⟩
theorem runs_FDRAW1 (B : Nat) (p A : Option Addr) (cp : Nat) (r' : LS) (w : World) (hs : Calls Tryz.prog 22 #[Value.pointer (some ⟨B, 0, none⟩)] w (Clo 67 B p A cp r' w)) : Calls Tryz.prog 8 #[Value.pointer (some ⟨B, 0, none⟩)] w (Done B p A cp w (.tuple #[]) r') := by
  have HS := Lib.hid hs
  clear hs
  have hn := neq_fnC
  go_enter Tryz.func8, Tryz.ntmps8
  go_wp2_with fail
  refine HS.out.mono ?_
  rintro e w1 ⟨caps, rfl, hO, hC⟩
  have HO := Lib.hid hO
  have HC := Lib.hid hC
  clear hO hC HS
  go_wp2_with fail
  refine HC.out.mono ?_
  rintro e w2 ⟨rfl, hO, nv2, hP⟩
  have HO2 := Lib.hid ((HO.out.mono (T := TurnB B A) (fun _ _ h => h.elim)).trans hO)
  have HP2 := Lib.hid hP
  clear hO hP HO HC
  go_wp2
  go_returns
  exact ⟨rfl, HO2.out, nv2, HP2.out⟩
theorem runs_FLEAVE1 (B : Nat) (p A : Option Addr) (cp : Nat) (r' : LS) (w : World) (hs : Calls Tryz.prog 22 #[Value.pointer (some ⟨B, 0, none⟩)] w (Clo 75 B p A cp r' w)) : Calls Tryz.prog 8 #[Value.pointer (some ⟨B, 0, none⟩)] w (Done B p A cp w (.tuple #[]) r') := by
  have HS := Lib.hid hs
  clear hs
  have hn := neq_fnC
  go_enter Tryz.func8, Tryz.ntmps8
  go_wp2_with fail
  refine HS.out.mono ?_
  rintro e w1 ⟨caps, rfl, hO, hC⟩
  have HO := Lib.hid hO
  have HC := Lib.hid hC
  clear hO hC HS
  go_wp2_with fail
  refine HC.out.mono ?_
  rintro e w2 ⟨rfl, hO, nv2, hP⟩
  have HO2 := Lib.hid ((HO.out.mono (T := TurnB B A) (fun _ _ h => h.elim)).trans hO)
  have HP2 := Lib.hid hP
  clear hO hP HO HC
  go_wp2
  go_returns
  exact ⟨rfl, HO2.out, nv2, HP2.out⟩
theorem runs_FLOOK1 (B : Nat) (p A : Option Addr) (cp : Nat) (r' : LS) (w : World) (hs : Calls Tryz.prog 22 #[Value.pointer (some ⟨B, 0, none⟩)] w (Clo 76 B p A cp r' w)) : Calls Tryz.prog 8 #[Value.pointer (some ⟨B, 0, none⟩)] w (Done B p A cp w (.tuple #[]) r') := by
  have HS := Lib.hid hs
  clear hs
  have hn := neq_fnC
  go_enter Tryz.func8, Tryz.ntmps8
  go_wp2_with fail
  refine HS.out.mono ?_
  rintro e w1 ⟨caps, rfl, hO, hC⟩
  have HO := Lib.hid hO
  have HC := Lib.hid hC
  clear hO hC HS
  go_wp2_with fail
  refine HC.out.mono ?_
  rintro e w2 ⟨rfl, hO, nv2, hP⟩
  have HO2 := Lib.hid ((HO.out.mono (T := TurnB B A) (fun _ _ h => h.elim)).trans hO)
  have HP2 := Lib.hid hP
  clear hO hP HO HC
  go_wp2
  go_returns
  exact ⟨rfl, HO2.out, nv2, HP2.out⟩
theorem runs_FTURN1 (B : Nat) (p A : Option Addr) (cp : Nat) (r' : LS) (w : World) (hs : Calls Tryz.prog 22 #[Value.pointer (some ⟨B, 0, none⟩)] w (Clo 72 B p A cp r' w)) : Calls Tryz.prog 8 #[Value.pointer (some ⟨B, 0, none⟩)] w (Done B p A cp w (.tuple #[]) r') := by
  have HS := Lib.hid hs
  clear hs
  have hn := neq_fnC
  go_enter Tryz.func8, Tryz.ntmps8
  go_wp2_with fail
  refine HS.out.mono ?_
  rintro e w1 ⟨caps, rfl, hO, hC⟩
  have HO := Lib.hid hO
  have HC := Lib.hid hC
  clear hO hC HS
  go_wp2_with fail
  refine HC.out.mono ?_
  rintro e w2 ⟨rfl, hO, nv2, hP⟩
  have HO2 := Lib.hid ((HO.out.mono (T := TurnB B A) (fun _ _ h => h.elim)).trans hO)
  have HP2 := Lib.hid hP
  clear hO hP HO HC
  go_wp2
  go_returns
  exact ⟨rfl, HO2.out, nv2, HP2.out⟩
theorem runs_FWEIGH1 (B : Nat) (p A : Option Addr) (cp : Nat) (r' : LS) (w : World) (hs : Calls Tryz.prog 22 #[Value.pointer (some ⟨B, 0, none⟩)] w (Clo 78 B p A cp r' w)) : Calls Tryz.prog 8 #[Value.pointer (some ⟨B, 0, none⟩)] w (Done B p A cp w (.tuple #[]) r') := by
  have HS := Lib.hid hs
  clear hs
  have hn := neq_fnC
  go_enter Tryz.func8, Tryz.ntmps8
  go_wp2_with fail
  refine HS.out.mono ?_
  rintro e w1 ⟨caps, rfl, hO, hC⟩
  have HO := Lib.hid hO
  have HC := Lib.hid hC
  clear hO hC HS
  go_wp2_with fail
  refine HC.out.mono ?_
  rintro e w2 ⟨rfl, hO, nv2, hP⟩
  have HO2 := Lib.hid ((HO.out.mono (T := TurnB B A) (fun _ _ h => h.elim)).trans hO)
  have HP2 := Lib.hid hP
  clear hO hP HO HC
  go_wp2
  go_returns
  exact ⟨rfl, HO2.out, nv2, HP2.out⟩
theorem runs_no (B : Nat) (p A : Option Addr) (cp : Nat) (nv : Value) (r : LS) (w : World) (h : RunP w B p A cp nv r) (hs : Calls Tryz.prog 22 #[Value.pointer (some ⟨B, 0, none⟩)] w fun e w' => e = .returned .nilFunc ∧ Only Nil w w') : Calls Tryz.prog 8 #[Value.pointer (some ⟨B, 0, none⟩)] w (Done B p A cp w (.tuple #[]) r) := by
  have HS := Lib.hid hs
  have HP := Lib.hid h
  clear hs h
  have hn := neq_nilC
  go_enter Tryz.func8, Tryz.ntmps8
  go_wp2_with fail
  refine HS.out.mono ?_
  rintro e w1 ⟨rfl, hO⟩
  have HO := Lib.hid hO
  clear hO HS
  go_wp2
  go_returns
  exact ⟨rfl, HO.out.mono (fun _ _ h => h.elim), nv, HP.out.keep HO.out⟩
theorem lines_nil (w : World) : Calls Tryz.prog 8 #[.pointer none] w fun e w' => e = .returned (.tuple #[]) ∧ w = w' := by
  go_enter Tryz.func8, Tryz.ntmps8
  go_wp2
  go_returns
  exact ⟨rfl, rfl⟩
theorem tf_none {r : LS} (h : tfCase r.op r.line = 0) : r.tf = r := by unfold LS.tf; rw [h]; rfl
theorem tf_lines (B : Nat) (p A : Option Addr) (cp : Nat) (nv : Value) (r : LS) (w : World) (h : RunP w B p A cp nv r) (hl : r.ns.length ≤ 900) (hx : Words r.xs) : Calls Tryz.prog 8 #[Value.pointer (some ⟨B, 0, none⟩)] w (Done B p A cp w (.tuple #[]) r.tf) := by
  have none : ∀ op line, r.op = op → r.line = line → tfCase op line = 0 → Calls Tryz.prog 22 #[Value.pointer (some ⟨B, 0, none⟩)] w (fun e w' => e = .returned .nilFunc ∧ Only Nil w w') → Calls Tryz.prog 8 #[Value.pointer (some ⟨B, 0, none⟩)] w (Done B p A cp w (.tuple #[]) r.tf) := fun op line h1 h2 h0 hs => by
    rw [tf_none (by rw [h1, h2]; exact h0)]
    exact runs_no B p A cp nv r w h hs
  by_cases o1 : r.op = 1
  · by_cases l0 : r.line = 0
    · exact runs_FDRAW1 B p A cp _ w (stepOf_1_0 B p A cp nv r w h hl hx o1 l0)
    by_cases l1 : r.line = 1
    · exact runs_FAR1 B p A cp _ w (stepOf_1_1 B p A cp nv r w h hl hx o1 l1)
    by_cases l2 : r.line = 2
    · exact runs_FTURN1 B p A cp _ w (stepOf_1_2 B p A cp nv r w h hl hx o1 l2)
    exact none _ _ rfl rfl (by simp [tfCase, o1, l0, l1, l2]) (stepOf_no1 B p A cp nv r w h hl hx o1 l0 l1 l2)
  by_cases o2 : r.op = 2
  · by_cases l0 : r.line = 0
    · exact runs_FTURN1 B p A cp _ w (stepOf_2_0 B p A cp nv r w h hl hx o2 l0)
    exact none _ _ rfl rfl (by simp [tfCase, o2, l0]) (stepOf_no2 B p A cp nv r w h hl hx o2 l0)
  by_cases o3 : r.op = 3
  · by_cases l0 : r.line = 0
    · exact runs_FDRAW1 B p A cp _ w (stepOf_3_0 B p A cp nv r w h hl hx o3 l0)
    by_cases l1 : r.line = 1
    · exact runs_FAW1 B p A cp _ w (stepOf_3_1 B p A cp nv r w h hl hx o3 l1)
    exact none _ _ rfl rfl (by simp [tfCase, o3, l0, l1]) (stepOf_no3 B p A cp nv r w h hl hx o3 l0 l1)
  by_cases o4 : r.op = 4
  · by_cases l0 : r.line = 0
    · exact runs_FLEAVE1 B p A cp _ w (stepOf_4_0 B p A cp nv r w h hl hx o4 l0)
    by_cases l1 : r.line = 1
    · exact runs_FTURN1 B p A cp _ w (stepOf_4_1 B p A cp nv r w h hl hx o4 l1)
    exact none _ _ rfl rfl (by simp [tfCase, o4, l0, l1]) (stepOf_no4 B p A cp nv r w h hl hx o4 l0 l1)
  by_cases o5 : r.op = 5
  · by_cases l0 : r.line = 0
    · exact runs_FLOOK1 B p A cp _ w (stepOf_5_0 B p A cp nv r w h hl hx o5 l0)
    by_cases l1 : r.line = 1
    · exact runs_FWEIGH1 B p A cp _ w (stepOf_5_1 B p A cp nv r w h hl hx o5 l1)
    by_cases l2 : r.line = 2
    · exact runs_FCLAIM1 B p A cp _ w (stepOf_5_2 B p A cp nv r w h hl hx o5 l2)
    by_cases l3 : r.line = 3
    · exact runs_FTURN1 B p A cp _ w (stepOf_5_3 B p A cp nv r w h hl hx o5 l3)
    exact none _ _ rfl rfl (by simp [tfCase, o5, l0, l1, l2, l3]) (stepOf_no5 B p A cp nv r w h hl hx o5 l0 l1 l2 l3)
  by_cases o6 : r.op = 6
  · by_cases l0 : r.line = 0
    · exact runs_FLOOK1 B p A cp _ w (stepOf_6_0 B p A cp nv r w h hl hx o6 l0)
    by_cases l1 : r.line = 1
    · exact runs_FWEIGH1 B p A cp _ w (stepOf_6_1 B p A cp nv r w h hl hx o6 l1)
    by_cases l2 : r.line = 2
    · exact runs_FCLAIM1 B p A cp _ w (stepOf_6_2 B p A cp nv r w h hl hx o6 l2)
    exact none _ _ rfl rfl (by simp [tfCase, o6, l0, l1, l2]) (stepOf_no6 B p A cp nv r w h hl hx o6 l0 l1 l2)
  by_cases o7 : r.op = 7
  · by_cases l0 : r.line = 0
    · exact runs_FLOOK1 B p A cp _ w (stepOf_7_0 B p A cp nv r w h hl hx o7 l0)
    by_cases l1 : r.line = 1
    · exact runs_FWEIGH1 B p A cp _ w (stepOf_7_1 B p A cp nv r w h hl hx o7 l1)
    by_cases l2 : r.line = 2
    · exact runs_FCLAIM1 B p A cp _ w (stepOf_7_2 B p A cp nv r w h hl hx o7 l2)
    by_cases l3 : r.line = 3
    · exact runs_FBACK1 B p A cp _ w (stepOf_7_3 B p A cp nv r w h hl hx o7 l3)
    exact none _ _ rfl rfl (by simp [tfCase, o7, l0, l1, l2, l3]) (stepOf_no7 B p A cp nv r w h hl hx o7 l0 l1 l2 l3)
  by_cases o8 : r.op = 8
  · by_cases l0 : r.line = 0
    · exact runs_FTURN1 B p A cp _ w (stepOf_8_0 B p A cp nv r w h hl hx o8 l0)
    exact none _ _ rfl rfl (by simp [tfCase, o8, l0]) (stepOf_no8 B p A cp nv r w h hl hx o8 l0)
  exact none _ _ rfl rfl (by simp [tfCase, o1, o2, o3, o4, o5, o6, o7, o8]) (stepOf_no9 B p A cp nv r w h hl hx o1 o2 o3 o4 o5 o6 o7 o8)
theorem tf_lined (B : Nat) (p A : Option Addr) (cp : Nat) (r : LS) (hl : r.ns.length ≤ 900) (hx : Words r.xs) : Lined B p A cp (.func (.func 8) #[] #[]) r r.tf (TurnB B A) (fun _ => True) (fun _ => True) := by
  intro w nv _ h
  have HT := Lib.hid (tf_lines B p A cp nv r w h hl hx)
  have hn := neq_fnL
  clear h hl hx
  go_enter_defers Tryz.func21, Tryz.ntmps21
  go_wp2_with fail
  refine HT.out.mono ?_
  rintro e w1 ⟨rfl, hO, nv1, hP⟩
  have HO := Lib.hid hO
  have HP := Lib.hid hP
  clear hO hP HT
  go_wp2
  refine leaves_cons (f := 38) (args := #[]) (by simp) (by simp [go_sem]) ?_
  refine (rec_run _).mono ?_
  rintro e u' w'' ⟨rfl, rfl, rfl⟩
  exact ⟨_, by simp [results, Tryz.results21, go_sem], rfl, HO.out, trivial, nv1, HP.out⟩
theorem tf_step (B : Nat) (p A : Option Addr) (cp : Nat) (nv : Value) (r : LS) (w : World) (h : RunQ w B p A cp nv r) (hx : Words r.xs) :
    Calls Tryz.prog 7 #[Value.pointer (some ⟨B, 0, none⟩), .func (.func 8) #[] #[]] w (Stepd B p A cp (r.next LS.tf) (TurnB B A) (fun _ => True) w) := by
  unfold LS.next
  cases hon : r.k.on
  · rw [if_neg Bool.false_ne_true]
    exact step_lines B p A cp nv _ r _ _ _ _ w h hon (tf_lined B p A cp r.fresh (Nat.zero_le _) hx) (.inl rfl) (fun _ _ => trivial)
  · rw [if_pos rfl]
    exact step_wake B p A cp nv _ r w h hon
end Go.Proofs.YtdmpaoajcnjbaaaGreat
