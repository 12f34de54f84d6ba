import Derived.Test.YtkkldcggbekleaaGreatS32
import Derived.Test.YtkkldcggbekleaaGreatS33
import Derived.Test.YtkkldcggbekleaaGreatS34
import Derived.Test.YtkkldcggbekleaaGreatS35
import Derived.Test.YtkkldcggbekleaaGreatS36
import Derived.Test.YtkkldcggbekleaaGreatS12
set_option linter.unusedVariables false
set_option linter.unusedSimpArgs false
namespace Go.Proofs.YtkkldcggbekleaaGreat
open Go.RowKit
set_option maxRecDepth 100000 in
set_option maxHeartbeats 2000000 in
theorem stepOf_no5 (B : Nat) (p A : Option Addr) (cp : Nat) (nv : Value) (r : LS) (w : World) (h : RunP w B p A cp nv r) (hl : r.ns.length ≤ 900) (hx : Words r.xs) (ha : 0 ≤ r.a ∧ r.a < 4294967296) (h1 : r.op = 5) (n0 : ¬ r.line = 0) (n1 : ¬ r.line = 1) (n5 : ¬ r.line = 5) (n6 : ¬ r.line = 6) (n7 : ¬ r.line = 7) (n8 : ¬ r.line = 8) (n9 : ¬ r.line = 9) : Calls Tryz.prog 22 #[Value.pointer (some ⟨B, 0, none⟩)] w fun e w' => e = .returned .nilFunc ∧ Only Nil w w' := by
  have H1 := Lib.hid h1
  clear h1
  obtain ⟨ln, H2⟩ : ∃ ln, Hid (r.line = ln) := ⟨_, Lib.hid rfl⟩
  rw [H2.out] at n0 n1 n5 n6 n7 n8 n9
  have HX := Lib.hid hx
  have HL := Lib.hid hl
  have HA := Lib.hid ha
  have e0 := (Only.refl Nil w).alloc (.cells #[Value.pointer (some ⟨B, 0, none⟩)] 35)
  have HP := Lib.hid (h.keep e0)
  have HO := Lib.hid e0
  have HR := Lib.hid (Row.new w 35 #[Value.pointer (some ⟨B, 0, none⟩)])
  clear h hl hx ha e0
  go_enter Tryz.func22, Tryz.ntmps22
  go_upto_region 1 with (fail)
  generalize w.alloc (.cells #[Value.pointer (some ⟨B, 0, none⟩)] 35) = w1 at *
  generalize w.heap.size = gs at *
  refine wp_region_phase (n := 11) 10 (fun w => w.cell? ⟨gs, 0, none⟩ = some (Value.pointer (some ⟨B, 0, none⟩)) ∧ w.cell? ⟨B, 4, none⟩ = some (.int .i64 (5)) ∧ w.cell? ⟨B, 5, none⟩ = some (.int .i64 (ln))) rfl (by kernel_rfl) ⟨HR.out.cell_ (i := 0) rfl, by rw [← H1.out]; exact HP.out.row.cell_ (i := 4) rfl, by rw [← H2.out]; exact HP.out.row.cell_ (i := 5) rfl⟩ (fun hHeld => ?_)
  have HP1 := Lib.hid (HP.out.keep (Only.refl Nil w1).drew)
  have HR1 := Lib.hid HR.out.drew
  have HO1 := Lib.hid HO.out.drew
  clear HP HR HO
  generalize w1.drew = w2 at *
  refine mpt 0 rfl (Value.pointer (some ⟨B, 0, none⟩)) (fun w hSw => ?_) ?_
  · (try dsimp only at hSw)
    go_split_ands
    go_simp
  (try simp only [Act.put, k1, k2, k3])
  refine mpa 1 rfl (Value.pointer (some ⟨B, 0, none⟩)) (fun w => ?_) ?_
  · go_simp
  (try simp only [Act.put, k1, k2, k3])
  refine mpa 2 rfl (.pointer (some ⟨B, 4, none⟩)) (fun w => ?_) ?_
  · go_simp
  (try simp only [Act.put, k1, k2, k3])
  refine mpa 3 rfl (.pointer (some ⟨B, 4, none⟩)) (fun w => ?_) ?_
  · go_simp
  (try simp only [Act.put, k1, k2, k3])
  refine mpt 4 rfl (.int .i64 (5)) (fun w hSw => ?_) ?_
  · (try dsimp only at hSw)
    go_split_ands
    go_simp
  (try simp only [Act.put, k1, k2, k3])
  refine mpt 5 rfl (Value.pointer (some ⟨B, 0, none⟩)) (fun w hSw => ?_) ?_
  · (try dsimp only at hSw)
    go_split_ands
    go_simp
  (try simp only [Act.put, k1, k2, k3])
  refine mpa 6 rfl (Value.pointer (some ⟨B, 0, none⟩)) (fun w => ?_) ?_
  · go_simp
  (try simp only [Act.put, k1, k2, k3])
  refine mpa 7 rfl (.pointer (some ⟨B, 4, none⟩)) (fun w => ?_) ?_
  · go_simp
  (try simp only [Act.put, k1, k2, k3])
  refine mpa 8 rfl (.pointer (some ⟨B, 5, none⟩)) (fun w => ?_) ?_
  · go_simp
  (try simp only [Act.put, k1, k2, k3])
  refine mpt 9 rfl (.int .i64 (ln)) (fun w hSw => ?_) ?_
  · (try dsimp only at hSw)
    go_split_ands
    go_simp
  (try simp only [Act.put, k1, k2, k3])
  refine mpc 10 rfl (by kernel_rfl) (by rfl) (fun K hK => ?_)
  go_simp
  refine hK.out _ _ (.inl (by kernel_rfl)) ?_
  clear hK K
  (try simp only [Act.put, k1, k2, k3])
  refine wpAnyP_done (by kernel_rfl) ?_ _
  clear hHeld
  have b0 : w2.cell? ⟨gs, 0, none⟩ = some (Value.pointer (some ⟨B, 0, none⟩)) := HR1.out.cell_ (i := 0) rfl
  go_wp2
  go_ret
  exact ⟨rfl, HO1.out⟩
set_option maxRecDepth 100000 in
set_option maxHeartbeats 2000000 in
theorem stepOf_no6 (B : Nat) (p A : Option Addr) (cp : Nat) (nv : Value) (r : LS) (w : World) (h : RunP w B p A cp nv r) (hl : r.ns.length ≤ 900) (hx : Words r.xs) (ha : 0 ≤ r.a ∧ r.a < 4294967296) (h1 : r.op = 6) (n0 : ¬ r.line = 0) (n1 : ¬ r.line = 1) (n2 : ¬ r.line = 2) (n6 : ¬ r.line = 6) (n7 : ¬ r.line = 7) (n8 : ¬ r.line = 8) (n9 : ¬ r.line = 9) : Calls Tryz.prog 22 #[Value.pointer (some ⟨B, 0, none⟩)] w fun e w' => e = .returned .nilFunc ∧ Only Nil w w' := by
  have H1 := Lib.hid h1
  clear h1
  obtain ⟨ln, H2⟩ : ∃ ln, Hid (r.line = ln) := ⟨_, Lib.hid rfl⟩
  rw [H2.out] at n0 n1 n2 n6 n7 n8 n9
  have HX := Lib.hid hx
  have HL := Lib.hid hl
  have HA := Lib.hid ha
  have e0 := (Only.refl Nil w).alloc (.cells #[Value.pointer (some ⟨B, 0, none⟩)] 35)
  have HP := Lib.hid (h.keep e0)
  have HO := Lib.hid e0
  have HR := Lib.hid (Row.new w 35 #[Value.pointer (some ⟨B, 0, none⟩)])
  clear h hl hx ha e0
  go_enter Tryz.func22, Tryz.ntmps22
  go_upto_region 1 with (fail)
  generalize w.alloc (.cells #[Value.pointer (some ⟨B, 0, none⟩)] 35) = w1 at *
  generalize w.heap.size = gs at *
  refine wp_region_phase (n := 11) 10 (fun w => w.cell? ⟨gs, 0, none⟩ = some (Value.pointer (some ⟨B, 0, none⟩)) ∧ w.cell? ⟨B, 4, none⟩ = some (.int .i64 (6)) ∧ w.cell? ⟨B, 5, none⟩ = some (.int .i64 (ln))) rfl (by kernel_rfl) ⟨HR.out.cell_ (i := 0) rfl, by rw [← H1.out]; exact HP.out.row.cell_ (i := 4) rfl, by rw [← H2.out]; exact HP.out.row.cell_ (i := 5) rfl⟩ (fun hHeld => ?_)
  have HP1 := Lib.hid (HP.out.keep (Only.refl Nil w1).drew)
  have HR1 := Lib.hid HR.out.drew
  have HO1 := Lib.hid HO.out.drew
  clear HP HR HO
  generalize w1.drew = w2 at *
  refine mpt 0 rfl (Value.pointer (some ⟨B, 0, none⟩)) (fun w hSw => ?_) ?_
  · (try dsimp only at hSw)
    go_split_ands
    go_simp
  (try simp only [Act.put, k1, k2, k3])
  refine mpa 1 rfl (Value.pointer (some ⟨B, 0, none⟩)) (fun w => ?_) ?_
  · go_simp
  (try simp only [Act.put, k1, k2, k3])
  refine mpa 2 rfl (.pointer (some ⟨B, 4, none⟩)) (fun w => ?_) ?_
  · go_simp
  (try simp only [Act.put, k1, k2, k3])
  refine mpa 3 rfl (.pointer (some ⟨B, 4, none⟩)) (fun w => ?_) ?_
  · go_simp
  (try simp only [Act.put, k1, k2, k3])
  refine mpt 4 rfl (.int .i64 (6)) (fun w hSw => ?_) ?_
  · (try dsimp only at hSw)
    go_split_ands
    go_simp
  (try simp only [Act.put, k1, k2, k3])
  refine mpt 5 rfl (Value.pointer (some ⟨B, 0, none⟩)) (fun w hSw => ?_) ?_
  · (try dsimp only at hSw)
    go_split_ands
    go_simp
  (try simp only [Act.put, k1, k2, k3])
  refine mpa 6 rfl (Value.pointer (some ⟨B, 0, none⟩)) (fun w => ?_) ?_
  · go_simp
  (try simp only [Act.put, k1, k2, k3])
  refine mpa 7 rfl (.pointer (some ⟨B, 4, none⟩)) (fun w => ?_) ?_
  · go_simp
  (try simp only [Act.put, k1, k2, k3])
  refine mpa 8 rfl (.pointer (some ⟨B, 5, none⟩)) (fun w => ?_) ?_
  · go_simp
  (try simp only [Act.put, k1, k2, k3])
  refine mpt 9 rfl (.int .i64 (ln)) (fun w hSw => ?_) ?_
  · (try dsimp only at hSw)
    go_split_ands
    go_simp
  (try simp only [Act.put, k1, k2, k3])
  refine mpc 10 rfl (by kernel_rfl) (by rfl) (fun K hK => ?_)
  go_simp
  refine hK.out _ _ (.inl (by kernel_rfl)) ?_
  clear hK K
  (try simp only [Act.put, k1, k2, k3])
  refine wpAnyP_done (by kernel_rfl) ?_ _
  clear hHeld
  have b0 : w2.cell? ⟨gs, 0, none⟩ = some (Value.pointer (some ⟨B, 0, none⟩)) := HR1.out.cell_ (i := 0) rfl
  go_wp2
  go_ret
  exact ⟨rfl, HO1.out⟩
set_option maxRecDepth 100000 in
set_option maxHeartbeats 2000000 in
theorem stepOf_no9 (B : Nat) (p A : Option Addr) (cp : Nat) (nv : Value) (r : LS) (w : World) (h : RunP w B p A cp nv r) (hl : r.ns.length ≤ 900) (hx : Words r.xs) (ha : 0 ≤ r.a ∧ r.a < 4294967296) (n1 : ¬ r.op = 1) (n2 : ¬ r.op = 2) (n3 : ¬ r.op = 3) (n4 : ¬ r.op = 4) (n5 : ¬ r.op = 5) (n6 : ¬ r.op = 6) (n7 : ¬ r.op = 7) (n8 : ¬ r.op = 8) : Calls Tryz.prog 22 #[Value.pointer (some ⟨B, 0, none⟩)] w fun e w' => e = .returned .nilFunc ∧ Only Nil w w' := by
  obtain ⟨ol, H1⟩ : ∃ ol, Hid (r.op = ol) := ⟨_, Lib.hid rfl⟩
  rw [H1.out] at n1 n2 n3 n4 n5 n6 n7 n8
  obtain ⟨ln, H2⟩ : ∃ ln, Hid (r.line = ln) := ⟨_, Lib.hid rfl⟩
  have HX := Lib.hid hx
  have HL := Lib.hid hl
  have HA := Lib.hid ha
  have e0 := (Only.refl Nil w).alloc (.cells #[Value.pointer (some ⟨B, 0, none⟩)] 35)
  have HP := Lib.hid (h.keep e0)
  have HO := Lib.hid e0
  have HR := Lib.hid (Row.new w 35 #[Value.pointer (some ⟨B, 0, none⟩)])
  clear h hl hx ha e0
  go_enter Tryz.func22, Tryz.ntmps22
  go_upto_region 1 with (fail)
  generalize w.alloc (.cells #[Value.pointer (some ⟨B, 0, none⟩)] 35) = w1 at *
  generalize w.heap.size = gs at *
  refine wp_region_phase (n := 11) 10 (fun w => w.cell? ⟨gs, 0, none⟩ = some (Value.pointer (some ⟨B, 0, none⟩)) ∧ w.cell? ⟨B, 4, none⟩ = some (.int .i64 (ol)) ∧ w.cell? ⟨B, 5, none⟩ = some (.int .i64 (ln))) rfl (by kernel_rfl) ⟨HR.out.cell_ (i := 0) rfl, by rw [← H1.out]; exact HP.out.row.cell_ (i := 4) rfl, by rw [← H2.out]; exact HP.out.row.cell_ (i := 5) rfl⟩ (fun hHeld => ?_)
  have HP1 := Lib.hid (HP.out.keep (Only.refl Nil w1).drew)
  have HR1 := Lib.hid HR.out.drew
  have HO1 := Lib.hid HO.out.drew
  clear HP HR HO
  generalize w1.drew = w2 at *
  refine mpt 0 rfl (Value.pointer (some ⟨B, 0, none⟩)) (fun w hSw => ?_) ?_
  · (try dsimp only at hSw)
    go_split_ands
    go_simp
  (try simp only [Act.put, k1, k2, k3])
  refine mpa 1 rfl (Value.pointer (some ⟨B, 0, none⟩)) (fun w => ?_) ?_
  · go_simp
  (try simp only [Act.put, k1, k2, k3])
  refine mpa 2 rfl (.pointer (some ⟨B, 4, none⟩)) (fun w => ?_) ?_
  · go_simp
  (try simp only [Act.put, k1, k2, k3])
  refine mpa 3 rfl (.pointer (some ⟨B, 4, none⟩)) (fun w => ?_) ?_
  · go_simp
  (try simp only [Act.put, k1, k2, k3])
  refine mpt 4 rfl (.int .i64 (ol)) (fun w hSw => ?_) ?_
  · (try dsimp only at hSw)
    go_split_ands
    go_simp
  (try simp only [Act.put, k1, k2, k3])
  refine mpt 5 rfl (Value.pointer (some ⟨B, 0, none⟩)) (fun w hSw => ?_) ?_
  · (try dsimp only at hSw)
    go_split_ands
    go_simp
  (try simp only [Act.put, k1, k2, k3])
  refine mpa 6 rfl (Value.pointer (some ⟨B, 0, none⟩)) (fun w => ?_) ?_
  · go_simp
  (try simp only [Act.put, k1, k2, k3])
  refine mpa 7 rfl (.pointer (some ⟨B, 4, none⟩)) (fun w => ?_) ?_
  · go_simp
  (try simp only [Act.put, k1, k2, k3])
  refine mpa 8 rfl (.pointer (some ⟨B, 5, none⟩)) (fun w => ?_) ?_
  · go_simp
  (try simp only [Act.put, k1, k2, k3])
  refine mpt 9 rfl (.int .i64 (ln)) (fun w hSw => ?_) ?_
  · (try dsimp only at hSw)
    go_split_ands
    go_simp
  (try simp only [Act.put, k1, k2, k3])
  refine mpc 10 rfl (by kernel_rfl) (by rfl) (fun K hK => ?_)
  go_simp
  refine hK.out _ _ (.inl (by kernel_rfl)) ?_
  clear hK K
  (try simp only [Act.put, k1, k2, k3])
  refine wpAnyP_done (by kernel_rfl) ?_ _
  clear hHeld
  have b0 : w2.cell? ⟨gs, 0, none⟩ = some (Value.pointer (some ⟨B, 0, none⟩)) := HR1.out.cell_ (i := 0) rfl
  go_wp2
  go_ret
  exact ⟨rfl, HO1.out⟩
end Go.Proofs.YtkkldcggbekleaaGreat
set_option linter.unusedVariables false
set_option linter.unusedSimpArgs false
namespace Go.Proofs.YtkkldcggbekleaaGreat
open Go.RowKit
set_option maxRecDepth 100000 in
theorem neq_nilC (w : World) : (binOp .neq 1 .nilFunc .nilFunc).run Tryz.prog w = .ok (.bool false) w := by
  first | rfl | kernel_rfl
set_option maxRecDepth 100000 in
theorem neq_fnC (f : Fn) (first cap : Array Value) (w : World) : (binOp .neq 1 (.func f first cap) .nilFunc).run Tryz.prog w = .ok (.bool true) w := by
  first | rfl | kernel_rfl
theorem runs_FAW1 (B : Nat) (p A : Option Addr) (cp : Nat) (r' : LS) (w : World) (hs : Calls Tryz.prog 22 #[Value.pointer (some ⟨B, 0, none⟩)] w (Clo 80 B p A cp r' w)) : Calls Tryz.prog 8 #[Value.pointer (some ⟨B, 0, none⟩)] w (Done B p A cp w (.tuple #[]) r') := by
  have HS := Lib.hid hs
  clear hs
  have hn := neq_fnC
  go_enter Tryz.func8, Tryz.ntmps8
  go_wp2_with fail
  refine HS.out.mono ?_
  rintro e w1 ⟨caps, rfl, hO, hC⟩
  have HO := Lib.hid hO
  have HC := Lib.hid hC
  clear hO hC HS
  go_wp2_with fail
  refine HC.out.mono ?_
  rintro e w2 ⟨rfl, hO, nv2, hP⟩
  have HO2 := Lib.hid ((HO.out.mono (T := TurnB B A) (fun _ _ h => h.elim)).trans hO)
  have HP2 := Lib.hid hP
  clear hO hP HO HC
  go_wp2
  go_returns
  exact ⟨rfl, HO2.out, nv2, HP2.out⟩
theorem runs_FCIN1 (B : Nat) (p A : Option Addr) (cp : Nat) (r' : LS) (w : World) (hs : Calls Tryz.prog 22 #[Value.pointer (some ⟨B, 0, none⟩)] w (Clo 74 B p A cp r' w)) : Calls Tryz.prog 8 #[Value.pointer (some ⟨B, 0, none⟩)] w (Done B p A cp w (.tuple #[]) r') := by
  have HS := Lib.hid hs
  clear hs
  have hn := neq_fnC
  go_enter Tryz.func8, Tryz.ntmps8
  go_wp2_with fail
  refine HS.out.mono ?_
  rintro e w1 ⟨caps, rfl, hO, hC⟩
  have HO := Lib.hid hO
  have HC := Lib.hid hC
  clear hO hC HS
  go_wp2_with fail
  refine HC.out.mono ?_
  rintro e w2 ⟨rfl, hO, nv2, hP⟩
  have HO2 := Lib.hid ((HO.out.mono (T := TurnB B A) (fun _ _ h => h.elim)).trans hO)
  have HP2 := Lib.hid hP
  clear hO hP HO HC
  go_wp2
  go_returns
  exact ⟨rfl, HO2.out, nv2, HP2.out⟩
theorem runs_FCOUT1 (B : Nat) (p A : Option Addr) (cp : Nat) (r' : LS) (w : World) (hs : Calls Tryz.prog 22 #[Value.pointer (some ⟨B, 0, none⟩)] w (Clo 78 B p A cp r' w)) : Calls Tryz.prog 8 #[Value.pointer (some ⟨B, 0, none⟩)] w (Done B p A cp w (.tuple #[]) r') := by
  have HS := Lib.hid hs
  clear hs
  have hn := neq_fnC
  go_enter Tryz.func8, Tryz.ntmps8
  go_wp2_with fail
  refine HS.out.mono ?_
  rintro e w1 ⟨caps, rfl, hO, hC⟩
  have HO := Lib.hid hO
  have HC := Lib.hid hC
  clear hO hC HS
  go_wp2_with fail
  refine HC.out.mono ?_
  rintro e w2 ⟨rfl, hO, nv2, hP⟩
  have HO2 := Lib.hid ((HO.out.mono (T := TurnB B A) (fun _ _ h => h.elim)).trans hO)
  have HP2 := Lib.hid hP
  clear hO hP HO HC
  go_wp2
  go_returns
  exact ⟨rfl, HO2.out, nv2, HP2.out⟩
theorem runs_FENT1 (B : Nat) (p A : Option Addr) (cp : Nat) (r' : LS) (w : World) (hs : Calls Tryz.prog 22 #[Value.pointer (some ⟨B, 0, none⟩)] w (Clo 72 B p A cp r' w)) : Calls Tryz.prog 8 #[Value.pointer (some ⟨B, 0, none⟩)] w (Done B p A cp w (.tuple #[]) r') := by
  have HS := Lib.hid hs
  clear hs
  have hn := neq_fnC
  go_enter Tryz.func8, Tryz.ntmps8
  go_wp2_with fail
  refine HS.out.mono ?_
  rintro e w1 ⟨caps, rfl, hO, hC⟩
  have HO := Lib.hid hO
  have HC := Lib.hid hC
  clear hO hC HS
  go_wp2_with fail
  refine HC.out.mono ?_
  rintro e w2 ⟨rfl, hO, nv2, hP⟩
  have HO2 := Lib.hid ((HO.out.mono (T := TurnB B A) (fun _ _ h => h.elim)).trans hO)
  have HP2 := Lib.hid hP
  clear hO hP HO HC
  go_wp2
  go_returns
  exact ⟨rfl, HO2.out, nv2, HP2.out⟩
theorem runs_FGV1 (B : Nat) (p A : Option Addr) (cp : Nat) (r' : LS) (w : World) (hs : Calls Tryz.prog 22 #[Value.pointer (some ⟨B, 0, none⟩)] w (Clo 76 B p A cp r' w)) : Calls Tryz.prog 8 #[Value.pointer (some ⟨B, 0, none⟩)] w (Done B p A cp w (.tuple #[]) r') := by
  have HS := Lib.hid hs
  clear hs
  have hn := neq_fnC
  go_enter Tryz.func8, Tryz.ntmps8
  go_wp2_with fail
  refine HS.out.mono ?_
  rintro e w1 ⟨caps, rfl, hO, hC⟩
  have HO := Lib.hid hO
  have HC := Lib.hid hC
  clear hO hC HS
  go_wp2_with fail
  refine HC.out.mono ?_
  rintro e w2 ⟨rfl, hO, nv2, hP⟩
  have HO2 := Lib.hid ((HO.out.mono (T := TurnB B A) (fun _ _ h => h.elim)).trans hO)
  have HP2 := Lib.hid hP
  clear hO hP HO HC
  go_wp2
  go_returns
  exact ⟨rfl, HO2.out, nv2, HP2.out⟩
theorem runs_FSTOP1 (B : Nat) (p A : Option Addr) (cp : Nat) (r' : LS) (w : World) (hs : Calls Tryz.prog 22 #[Value.pointer (some ⟨B, 0, none⟩)] w (Clo 88 B p A cp r' w)) : Calls Tryz.prog 8 #[Value.pointer (some ⟨B, 0, none⟩)] w (Done B p A cp w (.tuple #[]) r') := by
  have HS := Lib.hid hs
  clear hs
  have hn := neq_fnC
  go_enter Tryz.func8, Tryz.ntmps8
  go_wp2_with fail
  refine HS.out.mono ?_
  rintro e w1 ⟨caps, rfl, hO, hC⟩
  have HO := Lib.hid hO
  have HC := Lib.hid hC
  clear hO hC HS
  go_wp2_with fail
  refine HC.out.mono ?_
  rintro e w2 ⟨rfl, hO, nv2, hP⟩
  have HO2 := Lib.hid ((HO.out.mono (T := TurnB B A) (fun _ _ h => h.elim)).trans hO)
  have HP2 := Lib.hid hP
  clear hO hP HO HC
  go_wp2
  go_returns
  exact ⟨rfl, HO2.out, nv2, HP2.out⟩
theorem runs_FTRY1 (B : Nat) (p A : Option Addr) (cp : Nat) (r' : LS) (w : World) (hs : Calls Tryz.prog 22 #[Value.pointer (some ⟨B, 0, none⟩)] w (Clo 83 B p A cp r' w)) : Calls Tryz.prog 8 #[Value.pointer (some ⟨B, 0, none⟩)] w (Done B p A cp w (.tuple #[]) r') := by
  have HS := Lib.hid hs
  clear hs
  have hn := neq_fnC
  go_enter Tryz.func8, Tryz.ntmps8
  go_wp2_with fail
  refine HS.out.mono ?_
  rintro e w1 ⟨caps, rfl, hO, hC⟩
  have HO := Lib.hid hO
  have HC := Lib.hid hC
  clear hO hC HS
  go_wp2_with fail
  refine HC.out.mono ?_
  rintro e w2 ⟨rfl, hO, nv2, hP⟩
  have HO2 := Lib.hid ((HO.out.mono (T := TurnB B A) (fun _ _ h => h.elim)).trans hO)
  have HP2 := Lib.hid hP
  clear hO hP HO HC
  go_wp2
  go_returns
  exact ⟨rfl, HO2.out, nv2, HP2.out⟩
theorem runs_FWEIGH1 (B : Nat) (p A : Option Addr) (cp : Nat) (r' : LS) (w : World) (hs : Calls Tryz.prog 22 #[Value.pointer (some ⟨B, 0, none⟩)] w (Clo 85 B p A cp r' w)) : Calls Tryz.prog 8 #[Value.pointer (some ⟨B, 0, none⟩)] w (Done B p A cp w (.tuple #[]) r') := by
  have HS := Lib.hid hs
  clear hs
  have hn := neq_fnC
  go_enter Tryz.func8, Tryz.ntmps8
  go_wp2_with fail
  refine HS.out.mono ?_
  rintro e w1 ⟨caps, rfl, hO, hC⟩
  have HO := Lib.hid hO
  have HC := Lib.hid hC
  clear hO hC HS
  go_wp2_with fail
  refine HC.out.mono ?_
  rintro e w2 ⟨rfl, hO, nv2, hP⟩
  have HO2 := Lib.hid ((HO.out.mono (T := TurnB B A) (fun _ _ h => h.elim)).trans hO)
  have HP2 := Lib.hid hP
  clear hO hP HO HC
  go_wp2
  go_returns
  exact ⟨rfl, HO2.out, nv2, HP2.out⟩
theorem runs_no (B : Nat) (p A : Option Addr) (cp : Nat) (nv : Value) (r : LS) (w : World) (h : RunP w B p A cp nv r) (hs : Calls Tryz.prog 22 #[Value.pointer (some ⟨B, 0, none⟩)] w fun e w' => e = .returned .nilFunc ∧ Only Nil w w') : Calls Tryz.prog 8 #[Value.pointer (some ⟨B, 0, none⟩)] w (Done B p A cp w (.tuple #[]) r) := by
  have HS := Lib.hid hs
  have HP := Lib.hid h
  clear hs h
  have hn := neq_nilC
  go_enter Tryz.func8, Tryz.ntmps8
  go_wp2_with fail
  refine HS.out.mono ?_
  rintro e w1 ⟨rfl, hO⟩
  have HO := Lib.hid hO
  clear hO HS
  go_wp2
  go_returns
  exact ⟨rfl, HO.out.mono (fun _ _ h => h.elim), nv, HP.out.keep HO.out⟩
theorem lines_nil (w : World) : Calls Tryz.prog 8 #[.pointer none] w fun e w' => e = .returned (.tuple #[]) ∧ w = w' := by
  go_enter Tryz.func8, Tryz.ntmps8
  go_wp2
  go_returns
  exact ⟨rfl, rfl⟩
theorem qGive_no {r : LS} {a : Int} {ok : Bool} {l : List Int} (h0 : r.line ≠ a) (h1 : r.line ≠ a + 1) (h2 : r.line ≠ a + 2) (h3 : r.line ≠ a + 3) : r.qGive a ok l = r :=
  qGive_of (by unfold LS.mxGive; rw [if_neg h0, if_neg h1, if_neg h2, if_neg h3]) (d := false)
theorem fq_no1 {r : LS} (h1 : r.op = 1) (n0 : ¬ r.line = 0) (n1 : ¬ r.line = 1) (n2 : ¬ r.line = 2) (n3 : ¬ r.line = 3) (n4 : ¬ r.line = 4) (n5 : ¬ r.line = 5) (n6 : ¬ r.line = 6) (n7 : ¬ r.line = 7) (n8 : ¬ r.line = 8) (n9 : ¬ r.line = 9) : r.fq = r := by
  have hc : fqCase r.op r.line = 4 := by
    rw [h1]
    unfold fqCase
    repeat (first | rw [if_neg (by omega)] | rw [if_pos (by omega)])
  unfold LS.fq
  rw [hc]
  exact qGive_no n6 n7 n8 n9
theorem fq_no2 {r : LS} (h1 : r.op = 2) (n0 : ¬ r.line = 0) : r.fq = r := by
  have hc : fqCase r.op r.line = 0 := by
    rw [h1]
    unfold fqCase
    repeat (first | rw [if_neg (by omega)] | rw [if_pos (by omega)])
  unfold LS.fq
  rw [hc]
  exact rfl
theorem fq_no3 {r : LS} (h1 : r.op = 3) (n0 : ¬ r.line = 0) (n1 : ¬ r.line = 1) (n2 : ¬ r.line = 2) (n3 : ¬ r.line = 3) (n4 : ¬ r.line = 4) (n5 : ¬ r.line = 5) : r.fq = r := by
  have hc : fqCase r.op r.line = 0 := by
    rw [h1]
    unfold fqCase
    repeat (first | rw [if_neg (by omega)] | rw [if_pos (by omega)])
  unfold LS.fq
  rw [hc]
  exact rfl
theorem fq_no4 {r : LS} (h1 : r.op = 4) (n0 : ¬ r.line = 0) (n1 : ¬ r.line = 1) (n2 : ¬ r.line = 2) (n3 : ¬ r.line = 3) : r.fq = r := by
  have hc : fqCase r.op r.line = 7 := by
    rw [h1]
    unfold fqCase
    repeat (first | rw [if_neg (by omega)] | rw [if_pos (by omega)])
  unfold LS.fq
  rw [hc]
  exact qGive_no n0 n1 n2 n3
theorem fq_no5 {r : LS} (h1 : r.op = 5) (n0 : ¬ r.line = 0) (n1 : ¬ r.line = 1) (n5 : ¬ r.line = 5) (n6 : ¬ r.line = 6) (n7 : ¬ r.line = 7) (n8 : ¬ r.line = 8) (n9 : ¬ r.line = 9) : r.fq = r := by
  have hc : fqCase r.op r.line = 4 := by
    rw [h1]
    unfold fqCase
    repeat (first | rw [if_neg (by omega)] | rw [if_pos (by omega)])
  unfold LS.fq
  rw [hc]
  exact qGive_no n6 n7 n8 n9
theorem fq_no6 {r : LS} (h1 : r.op = 6) (n0 : ¬ r.line = 0) (n1 : ¬ r.line = 1) (n2 : ¬ r.line = 2) (n6 : ¬ r.line = 6) (n7 : ¬ r.line = 7) (n8 : ¬ r.line = 8) (n9 : ¬ r.line = 9) : r.fq = r := by
  have hc : fqCase r.op r.line = 11 := by
    rw [h1]
    unfold fqCase
    repeat (first | rw [if_neg (by omega)] | rw [if_pos (by omega)])
  unfold LS.fq
  rw [hc]
  exact qGive_no n6 n7 n8 n9
theorem fq_no7 {r : LS} (h1 : r.op = 7) (n0 : ¬ r.line = 0) (n1 : ¬ r.line = 1) (n2 : ¬ r.line = 2) (n3 : ¬ r.line = 3) (n6 : ¬ r.line = 6) (n7 : ¬ r.line = 7) (n8 : ¬ r.line = 8) (n9 : ¬ r.line = 9) : r.fq = r := by
  have hc : fqCase r.op r.line = 11 := by
    rw [h1]
    unfold fqCase
    repeat (first | rw [if_neg (by omega)] | rw [if_pos (by omega)])
  unfold LS.fq
  rw [hc]
  exact qGive_no n6 n7 n8 n9
theorem fq_no8 {r : LS} (h1 : r.op = 8) (n0 : ¬ r.line = 0) (n1 : ¬ r.line = 1) (n2 : ¬ r.line = 2) (n3 : ¬ r.line = 3) (n4 : ¬ r.line = 4) : r.fq = r := by
  have hc : fqCase r.op r.line = 13 := by
    rw [h1]
    unfold fqCase
    repeat (first | rw [if_neg (by omega)] | rw [if_pos (by omega)])
  unfold LS.fq
  rw [hc]
  exact qGive_no n1 n2 n3 n4
theorem fq_no9 {r : LS} (n1 : ¬ r.op = 1) (n2 : ¬ r.op = 2) (n3 : ¬ r.op = 3) (n4 : ¬ r.op = 4) (n5 : ¬ r.op = 5) (n6 : ¬ r.op = 6) (n7 : ¬ r.op = 7) (n8 : ¬ r.op = 8) : r.fq = r := by
  have hc : fqCase r.op r.line = 0 := by
    unfold fqCase
    repeat (first | rw [if_neg (by omega)] | rw [if_pos (by omega)])
  unfold LS.fq
  rw [hc]
  rfl
theorem fq_lines (B : Nat) (p A : Option Addr) (cp : Nat) (nv : Value) (r : LS) (w : World) (h : RunP w B p A cp nv r) (hl : r.ns.length ≤ 900) (hx : Words r.xs) (ha : 0 ≤ r.a ∧ r.a < 4294967296) : Calls Tryz.prog 8 #[Value.pointer (some ⟨B, 0, none⟩)] w (Done B p A cp w (.tuple #[]) r.fq) := by
  have none : r.fq = r → Calls Tryz.prog 22 #[Value.pointer (some ⟨B, 0, none⟩)] w (fun e w' => e = .returned .nilFunc ∧ Only Nil w w') → Calls Tryz.prog 8 #[Value.pointer (some ⟨B, 0, none⟩)] w (Done B p A cp w (.tuple #[]) r.fq) := fun e hs => by
    rw [e]
    exact runs_no B p A cp nv r w h hs
  by_cases o1 : r.op = 1
  · by_cases g0 : r.line = 0 ∨ r.line = 1 ∨ r.line = 2 ∨ r.line = 3 ∨ r.line = 4
    · exact runs_FENT1 B p A cp _ w (stepOf_1_0 B p A cp nv r w h hl hx ha o1 g0)
    by_cases g1 : r.line = 5
    · exact runs_FCIN1 B p A cp _ w (stepOf_1_5 B p A cp nv r w h hl hx ha o1 g1)
    by_cases g2 : r.line = 6 ∨ r.line = 7 ∨ r.line = 8 ∨ r.line = 9
    · exact runs_FGV1 B p A cp _ w (stepOf_1_6 B p A cp nv r w h hl hx ha o1 g2)
    exact none (fq_no1 o1 (by omega) (by omega) (by omega) (by omega) (by omega) (by omega) (by omega) (by omega) (by omega) (by omega)) (stepOf_no1 B p A cp nv r w h hl hx ha o1 (by omega) (by omega) (by omega) (by omega) (by omega) (by omega) (by omega) (by omega) (by omega) (by omega))
  by_cases o2 : r.op = 2
  · by_cases g0 : r.line = 0
    · exact runs_FCOUT1 B p A cp _ w (stepOf_2_0 B p A cp nv r w h hl hx ha o2 g0)
    exact none (fq_no2 o2 (by omega)) (stepOf_no2 B p A cp nv r w h hl hx ha o2 (by omega))
  by_cases o3 : r.op = 3
  · by_cases g0 : r.line = 0 ∨ r.line = 1 ∨ r.line = 2 ∨ r.line = 3 ∨ r.line = 4
    · exact runs_FENT1 B p A cp _ w (stepOf_3_0 B p A cp nv r w h hl hx ha o3 g0)
    by_cases g1 : r.line = 5
    · exact runs_FAW1 B p A cp _ w (stepOf_3_5 B p A cp nv r w h hl hx ha o3 g1)
    exact none (fq_no3 o3 (by omega) (by omega) (by omega) (by omega) (by omega) (by omega)) (stepOf_no3 B p A cp nv r w h hl hx ha o3 (by omega) (by omega) (by omega) (by omega) (by omega) (by omega))
  by_cases o4 : r.op = 4
  · by_cases g0 : r.line = 0 ∨ r.line = 1 ∨ r.line = 2 ∨ r.line = 3
    · exact runs_FGV1 B p A cp _ w (stepOf_4_0 B p A cp nv r w h hl hx ha o4 g0)
    exact none (fq_no4 o4 (by omega) (by omega) (by omega) (by omega)) (stepOf_no4 B p A cp nv r w h hl hx ha o4 (by omega) (by omega) (by omega) (by omega))
  by_cases o5 : r.op = 5
  · by_cases g0 : r.line = 5
    · exact runs_FCIN1 B p A cp _ w (stepOf_5_5 B p A cp nv r w h hl hx ha o5 g0)
    by_cases g1 : r.line = 6 ∨ r.line = 7 ∨ r.line = 8 ∨ r.line = 9
    · exact runs_FGV1 B p A cp _ w (stepOf_5_6 B p A cp nv r w h hl hx ha o5 g1)
    by_cases g2 : r.line = 0 ∨ r.line = 1
    · exact runs_FTRY1 B p A cp _ w (stepOf_5_0 B p A cp nv r w h hl hx ha o5 g2)
    exact none (fq_no5 o5 (by omega) (by omega) (by omega) (by omega) (by omega) (by omega) (by omega)) (stepOf_no5 B p A cp nv r w h hl hx ha o5 (by omega) (by omega) (by omega) (by omega) (by omega) (by omega) (by omega))
  by_cases o6 : r.op = 6
  · by_cases g0 : r.line = 0 ∨ r.line = 1
    · exact runs_FTRY1 B p A cp _ w (stepOf_6_0 B p A cp nv r w h hl hx ha o6 g0)
    by_cases g1 : r.line = 2
    · exact runs_FWEIGH1 B p A cp _ w (stepOf_6_2 B p A cp nv r w h hl hx ha o6 g1)
    by_cases g2 : r.line = 6 ∨ r.line = 7 ∨ r.line = 8 ∨ r.line = 9
    · exact runs_FGV1 B p A cp _ w (stepOf_6_6 B p A cp nv r w h hl hx ha o6 g2)
    exact none (fq_no6 o6 (by omega) (by omega) (by omega) (by omega) (by omega) (by omega) (by omega)) (stepOf_no6 B p A cp nv r w h hl hx ha o6 (by omega) (by omega) (by omega) (by omega) (by omega) (by omega) (by omega))
  by_cases o7 : r.op = 7
  · by_cases g0 : r.line = 0 ∨ r.line = 1
    · exact runs_FTRY1 B p A cp _ w (stepOf_7_0 B p A cp nv r w h hl hx ha o7 g0)
    by_cases g1 : r.line = 2
    · exact runs_FWEIGH1 B p A cp _ w (stepOf_7_2 B p A cp nv r w h hl hx ha o7 g1)
    by_cases g2 : r.line = 3
    · exact runs_FSTOP1 B p A cp _ w (stepOf_7_3 B p A cp nv r w h hl hx ha o7 g2)
    by_cases g3 : r.line = 6 ∨ r.line = 7 ∨ r.line = 8 ∨ r.line = 9
    · exact runs_FGV1 B p A cp _ w (stepOf_7_6 B p A cp nv r w h hl hx ha o7 g3)
    exact none (fq_no7 o7 (by omega) (by omega) (by omega) (by omega) (by omega) (by omega) (by omega) (by omega)) (stepOf_no7 B p A cp nv r w h hl hx ha o7 (by omega) (by omega) (by omega) (by omega) (by omega) (by omega) (by omega) (by omega))
  by_cases o8 : r.op = 8
  · by_cases g0 : r.line = 0
    · exact runs_FCIN1 B p A cp _ w (stepOf_8_0 B p A cp nv r w h hl hx ha o8 g0)
    by_cases g1 : r.line = 1 ∨ r.line = 2 ∨ r.line = 3 ∨ r.line = 4
    · exact runs_FGV1 B p A cp _ w (stepOf_8_1 B p A cp nv r w h hl hx ha o8 g1)
    exact none (fq_no8 o8 (by omega) (by omega) (by omega) (by omega) (by omega)) (stepOf_no8 B p A cp nv r w h hl hx ha o8 (by omega) (by omega) (by omega) (by omega) (by omega))
  exact none (fq_no9 o1 o2 o3 o4 o5 o6 o7 o8) (stepOf_no9 B p A cp nv r w h hl hx ha o1 o2 o3 o4 o5 o6 o7 o8)
theorem fq_lined (B : Nat) (p A : Option Addr) (cp : Nat) (r : LS) (hl : r.ns.length ≤ 900) (hx : Words r.xs) (ha : 0 ≤ r.a ∧ r.a < 4294967296) : Lined B p A cp (.func (.func 8) #[] #[]) r r.fq (TurnB B A) (fun _ => True) (fun _ => True) := by
  intro w nv _ h
  have HT := Lib.hid (fq_lines B p A cp nv r w h hl hx ha)
  have hn := neq_fnL
  clear h hl hx ha
  go_enter_defers Tryz.func21, Tryz.ntmps21
  go_wp2_with fail
  refine HT.out.mono ?_
  rintro e w1 ⟨rfl, hO, nv1, hP⟩
  have HO := Lib.hid hO
  have HP := Lib.hid hP
  clear hO hP HT
  go_wp2
  refine leaves_cons (f := 39) (args := #[]) (by simp) (by simp [go_sem]) ?_
  refine (rec_run _).mono ?_
  rintro e u' w'' ⟨rfl, rfl, rfl⟩
  exact ⟨_, by simp [results, Tryz.results21, go_sem], rfl, HO.out, trivial, nv1, HP.out⟩
theorem fq_step (B : Nat) (p A : Option Addr) (cp : Nat) (nv : Value) (r : LS) (w : World) (h : RunQ w B p A cp nv r) (hx : Words r.xs) (ha : 0 ≤ r.a ∧ r.a < 4294967296) :
    Calls Tryz.prog 7 #[Value.pointer (some ⟨B, 0, none⟩), .func (.func 8) #[] #[]] w (Stepd B p A cp (r.next LS.fq) (TurnB B A) (fun _ => True) w) := by
  unfold LS.next
  cases hon : r.k.on
  · rw [if_neg Bool.false_ne_true]
    exact step_lines B p A cp nv _ r _ _ _ _ w h hon (fq_lined B p A cp r.fresh (Nat.zero_le _) hx ha) (.inl rfl) (fun _ _ => trivial)
  · rw [if_pos rfl]
    exact step_wake B p A cp nv _ r w h hon
end Go.Proofs.YtkkldcggbekleaaGreat
