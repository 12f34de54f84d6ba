import Derived.Test.YtocdbeonogfopaaGreatG17
import Derived.Test.YtocdbeonogfopaaGreatG18
import Derived.Test.YtocdbeonogfopaaGreatG19
import Derived.Test.YtocdbeonogfopaaGreatG22
import Derived.Test.YtocdbeonogfopaaGreatG8
set_option linter.unusedVariables false
set_option linter.unusedSimpArgs false
namespace Go.Proofs.YtocdbeonogfopaaGreat
open Go.RowKit
set_option maxRecDepth 100000 in
set_option maxHeartbeats 2000000 in
theorem tryOf_no7 (B : Nat) (p A : Option Addr) (cp : Nat) (nv : Value) (r : LS) (w : World) (h : RunP w B p A cp nv r) (hl : r.ns.length ≤ 900) (hx : Words r.xs) (ha : 0 ≤ r.a ∧ r.a < 4294967296) (hb : 0 ≤ r.b ∧ r.b < 4294967296) (h1 : r.op = 7) (n0 : ¬ r.line = 0) (n1 : ¬ r.line = 1) (n2 : ¬ r.line = 2) (n3 : ¬ r.line = 3) (n4 : ¬ r.line = 4) (n5 : ¬ r.line = 5) (n6 : ¬ r.line = 6) (n7 : ¬ r.line = 7) (n8 : ¬ r.line = 8) (n9 : ¬ r.line = 9) (n10 : ¬ r.line = 10) (n11 : ¬ r.line = 11) : Calls Tryz.prog 46 #[Value.pointer (some ⟨B, 0, none⟩)] w fun e w' => e = .returned .nilFunc ∧ Only Nil w w' := by
  have H1 := Lib.hid h1; clear h1
  obtain ⟨ln, H2⟩ : ∃ ln, Hid (r.line = ln) := ⟨_, Lib.hid rfl⟩
  rw [H2.out] at n0 n1 n2 n3 n4 n5 n6 n7 n8 n9 n10 n11
  have HX := Lib.hid hx
  have HL := Lib.hid hl
  have HA := Lib.hid ha
  have HB := Lib.hid hb
  have HP := Lib.hid h
  have c4 : w.cell? ⟨B, 4, none⟩ = some (.int .i64 (7)) := by rw [← H1.out]; exact HP.out.row.cell_ (i := 4) rfl
  have c5 : w.cell? ⟨B, 5, none⟩ = some (.int .i64 (ln)) := by rw [← H2.out]; exact HP.out.row.cell_ (i := 5) rfl
  clear h hl hx ha hb
  go_enter Tryz.func46, Tryz.ntmps46
  go_upto_region 1 with (fail)
  refine wp_region_phase (n := 11) 10 (fun w => w.cell? ⟨B, 4, none⟩ = some (.int .i64 (7)) ∧ w.cell? ⟨B, 5, none⟩ = some (.int .i64 (ln))) rfl (by kernel_rfl) ⟨c4, c5⟩ (fun hHeld => ?_)
  clear c4 c5
  have HP1 := Lib.hid (HP.out.keep (Only.refl Nil w).drew)
  have HO1 := Lib.hid (Only.refl Nil w).drew
  clear HP
  generalize w.drew = w2 at *
  refine mpa 0 rfl (Value.pointer (some ⟨B, 0, none⟩)) (fun w => ?_) ?_
  · go_simp
  (try simp only [Act.put, k1, k2, k3])
  refine mpa 1 rfl (Value.pointer (some ⟨B, 0, none⟩)) (fun w => ?_) ?_
  · go_simp
  (try simp only [Act.put, k1, k2, k3])
  refine mpa 2 rfl (.pointer (some ⟨B, 4, none⟩)) (fun w => ?_) ?_
  · go_simp
  (try simp only [Act.put, k1, k2, k3])
  refine mpa 3 rfl (.pointer (some ⟨B, 4, none⟩)) (fun w => ?_) ?_
  · go_simp
  (try simp only [Act.put, k1, k2, k3])
  refine mpt 4 rfl (.int .i64 (7)) (fun w hSw => ?_) ?_
  · (try dsimp only at hSw)
    go_split_ands
    go_simp
  (try simp only [Act.put, k1, k2, k3])
  refine mpa 5 rfl (Value.pointer (some ⟨B, 0, none⟩)) (fun w => ?_) ?_
  · go_simp
  (try simp only [Act.put, k1, k2, k3])
  refine mpa 6 rfl (Value.pointer (some ⟨B, 0, none⟩)) (fun w => ?_) ?_
  · go_simp
  (try simp only [Act.put, k1, k2, k3])
  refine mpa 7 rfl (.pointer (some ⟨B, 4, none⟩)) (fun w => ?_) ?_
  · go_simp
  (try simp only [Act.put, k1, k2, k3])
  refine mpa 8 rfl (.pointer (some ⟨B, 5, none⟩)) (fun w => ?_) ?_
  · go_simp
  (try simp only [Act.put, k1, k2, k3])
  refine mpt 9 rfl (.int .i64 (ln)) (fun w hSw => ?_) ?_
  · (try dsimp only at hSw)
    go_split_ands
    go_simp
  (try simp only [Act.put, k1, k2, k3])
  refine mpc 10 rfl (by kernel_rfl) (by rfl) (fun K hK => ?_)
  go_simp
  refine hK.out _ _ (.inl (by kernel_rfl)) ?_
  clear hK K
  (try simp only [Act.put, k1, k2, k3])
  refine wpAnyP_done (by kernel_rfl) ?_ _
  clear hHeld
  go_wp2
  go_ret
  exact ⟨rfl, HO1.out⟩
set_option maxRecDepth 100000 in
set_option maxHeartbeats 2000000 in
theorem via_7 (B : Nat) (p A : Option Addr) (cp : Nat) (nv : Value) (r : LS) (w : World) (h : RunP w B p A cp nv r) (hl : r.ns.length ≤ 900) (hx : Words r.xs) (ha : 0 ≤ r.a ∧ r.a < 4294967296) (hb : 0 ≤ r.b ∧ r.b < 4294967296) (h1 : r.op = 7) (P : Value → World → Prop) (ht : ∀ w', RunP w' B p A cp nv r → Only Nil w w' → Calls Tryz.prog 46 #[Value.pointer (some ⟨B, 0, none⟩)] w' fun e w'' => ∃ v, e = .returned v ∧ P v w'') :
    Calls Tryz.prog 32 #[Value.pointer (some ⟨B, 0, none⟩)] w fun e w'' => ∃ v, e = .returned v ∧ P v w'' := by
  have H1 := Lib.hid h1; clear h1
  have HTT := Lib.hid ht
  clear ht
  obtain ⟨ln, H2⟩ : ∃ ln, Hid (r.line = ln) := ⟨_, Lib.hid rfl⟩
  skip
  have HX := Lib.hid hx
  have HL := Lib.hid hl
  have HA := Lib.hid ha
  have HB := Lib.hid hb
  have HP := Lib.hid h
  have c4 : w.cell? ⟨B, 4, none⟩ = some (.int .i64 (7)) := by rw [← H1.out]; exact HP.out.row.cell_ (i := 4) rfl
  have c5 : w.cell? ⟨B, 5, none⟩ = some (.int .i64 (ln)) := by rw [← H2.out]; exact HP.out.row.cell_ (i := 5) rfl
  clear h hl hx ha hb
  go_enter Tryz.func32, Tryz.ntmps32
  go_upto_region 1 with (fail)
  refine wp_region_phase (n := 11) 10 (fun w => w.cell? ⟨B, 4, none⟩ = some (.int .i64 (7)) ∧ w.cell? ⟨B, 5, none⟩ = some (.int .i64 (ln))) rfl (by kernel_rfl) ⟨c4, c5⟩ (fun hHeld => ?_)
  clear c4 c5
  have HP1 := Lib.hid (HP.out.keep (Only.refl Nil w).drew)
  have HO1 := Lib.hid (Only.refl Nil w).drew
  clear HP
  generalize w.drew = w2 at *
  refine mpa 0 rfl (Value.pointer (some ⟨B, 0, none⟩)) (fun w => ?_) ?_
  · go_simp
  (try simp only [Act.put, k1, k2, k3])
  refine mpa 1 rfl (Value.pointer (some ⟨B, 0, none⟩)) (fun w => ?_) ?_
  · go_simp
  (try simp only [Act.put, k1, k2, k3])
  refine mpa 2 rfl (.pointer (some ⟨B, 4, none⟩)) (fun w => ?_) ?_
  · go_simp
  (try simp only [Act.put, k1, k2, k3])
  refine mpa 3 rfl (.pointer (some ⟨B, 4, none⟩)) (fun w => ?_) ?_
  · go_simp
  (try simp only [Act.put, k1, k2, k3])
  refine mpt 4 rfl (.int .i64 (7)) (fun w hSw => ?_) ?_
  · (try dsimp only at hSw)
    go_split_ands
    go_simp
  (try simp only [Act.put, k1, k2, k3])
  refine mpa 5 rfl (Value.pointer (some ⟨B, 0, none⟩)) (fun w => ?_) ?_
  · go_simp
  (try simp only [Act.put, k1, k2, k3])
  refine mpa 6 rfl (Value.pointer (some ⟨B, 0, none⟩)) (fun w => ?_) ?_
  · go_simp
  (try simp only [Act.put, k1, k2, k3])
  refine mpa 7 rfl (.pointer (some ⟨B, 4, none⟩)) (fun w => ?_) ?_
  · go_simp
  (try simp only [Act.put, k1, k2, k3])
  refine mpa 8 rfl (.pointer (some ⟨B, 5, none⟩)) (fun w => ?_) ?_
  · go_simp
  (try simp only [Act.put, k1, k2, k3])
  refine mpt 9 rfl (.int .i64 (ln)) (fun w hSw => ?_) ?_
  · (try dsimp only at hSw)
    go_split_ands
    go_simp
  (try simp only [Act.put, k1, k2, k3])
  refine mpc 10 rfl (by kernel_rfl) (by rfl) (fun K hK => ?_)
  go_simp
  refine hK.out _ _ (.inl (by kernel_rfl)) ?_
  clear hK K
  (try simp only [Act.put, k1, k2, k3])
  refine wpAnyP_done (by kernel_rfl) ?_ _
  clear hHeld
  go_wp2_with fail
  refine (HTT.out _ HP1.out HO1.out).mono ?_
  rintro e w3 ⟨v, rfl, hv⟩
  have HV := Lib.hid hv
  clear hv HTT
  go_wp2
  go_ret
  exact ⟨v, rfl, HV.out⟩
set_option maxRecDepth 100000 in
set_option maxHeartbeats 2000000 in
theorem via_3 (B : Nat) (p A : Option Addr) (cp : Nat) (nv : Value) (r : LS) (w : World) (h : RunP w B p A cp nv r) (hl : r.ns.length ≤ 900) (hx : Words r.xs) (ha : 0 ≤ r.a ∧ r.a < 4294967296) (hb : 0 ≤ r.b ∧ r.b < 4294967296) (h1 : r.op = 3) (n0 : ¬ r.line = 0) (n1 : ¬ r.line = 1) (n2 : ¬ r.line = 2) (n3 : ¬ r.line = 3) (n4 : ¬ r.line = 4) (n5 : ¬ r.line = 5) (n6 : ¬ r.line = 6) (n7 : ¬ r.line = 7) (P : Value → World → Prop) (ht : ∀ w', RunP w' B p A cp nv r → Only Nil w w' → Calls Tryz.prog 46 #[Value.pointer (some ⟨B, 0, none⟩)] w' fun e w'' => ∃ v, e = .returned v ∧ P v w'') :
    Calls Tryz.prog 32 #[Value.pointer (some ⟨B, 0, none⟩)] w fun e w'' => ∃ v, e = .returned v ∧ P v w'' := by
  have H1 := Lib.hid h1; clear h1
  have HTT := Lib.hid ht
  clear ht
  obtain ⟨ln, H2⟩ : ∃ ln, Hid (r.line = ln) := ⟨_, Lib.hid rfl⟩
  rw [H2.out] at n0 n1 n2 n3 n4 n5 n6 n7
  have HX := Lib.hid hx
  have HL := Lib.hid hl
  have HA := Lib.hid ha
  have HB := Lib.hid hb
  have HP := Lib.hid h
  have c4 : w.cell? ⟨B, 4, none⟩ = some (.int .i64 (3)) := by rw [← H1.out]; exact HP.out.row.cell_ (i := 4) rfl
  have c5 : w.cell? ⟨B, 5, none⟩ = some (.int .i64 (ln)) := by rw [← H2.out]; exact HP.out.row.cell_ (i := 5) rfl
  clear h hl hx ha hb
  go_enter Tryz.func32, Tryz.ntmps32
  go_upto_region 1 with (fail)
  refine wp_region_phase (n := 11) 10 (fun w => w.cell? ⟨B, 4, none⟩ = some (.int .i64 (3)) ∧ w.cell? ⟨B, 5, none⟩ = some (.int .i64 (ln))) rfl (by kernel_rfl) ⟨c4, c5⟩ (fun hHeld => ?_)
  clear c4 c5
  have HP1 := Lib.hid (HP.out.keep (Only.refl Nil w).drew)
  have HO1 := Lib.hid (Only.refl Nil w).drew
  clear HP
  generalize w.drew = w2 at *
  refine mpa 0 rfl (Value.pointer (some ⟨B, 0, none⟩)) (fun w => ?_) ?_
  · go_simp
  (try simp only [Act.put, k1, k2, k3])
  refine mpa 1 rfl (Value.pointer (some ⟨B, 0, none⟩)) (fun w => ?_) ?_
  · go_simp
  (try simp only [Act.put, k1, k2, k3])
  refine mpa 2 rfl (.pointer (some ⟨B, 4, none⟩)) (fun w => ?_) ?_
  · go_simp
  (try simp only [Act.put, k1, k2, k3])
  refine mpa 3 rfl (.pointer (some ⟨B, 4, none⟩)) (fun w => ?_) ?_
  · go_simp
  (try simp only [Act.put, k1, k2, k3])
  refine mpt 4 rfl (.int .i64 (3)) (fun w hSw => ?_) ?_
  · (try dsimp only at hSw)
    go_split_ands
    go_simp
  (try simp only [Act.put, k1, k2, k3])
  refine mpa 5 rfl (Value.pointer (some ⟨B, 0, none⟩)) (fun w => ?_) ?_
  · go_simp
  (try simp only [Act.put, k1, k2, k3])
  refine mpa 6 rfl (Value.pointer (some ⟨B, 0, none⟩)) (fun w => ?_) ?_
  · go_simp
  (try simp only [Act.put, k1, k2, k3])
  refine mpa 7 rfl (.pointer (some ⟨B, 4, none⟩)) (fun w => ?_) ?_
  · go_simp
  (try simp only [Act.put, k1, k2, k3])
  refine mpa 8 rfl (.pointer (some ⟨B, 5, none⟩)) (fun w => ?_) ?_
  · go_simp
  (try simp only [Act.put, k1, k2, k3])
  refine mpt 9 rfl (.int .i64 (ln)) (fun w hSw => ?_) ?_
  · (try dsimp only at hSw)
    go_split_ands
    go_simp
  (try simp only [Act.put, k1, k2, k3])
  refine mpc 10 rfl (by kernel_rfl) (by rfl) (fun K hK => ?_)
  go_simp
  refine hK.out _ _ (.inl (by kernel_rfl)) ?_
  clear hK K
  (try simp only [Act.put, k1, k2, k3])
  refine wpAnyP_done (by kernel_rfl) ?_ _
  clear hHeld
  go_wp2_with fail
  refine (HTT.out _ HP1.out HO1.out).mono ?_
  rintro e w3 ⟨v, rfl, hv⟩
  have HV := Lib.hid hv
  clear hv HTT
  go_wp2
  go_ret
  exact ⟨v, rfl, HV.out⟩
set_option maxRecDepth 100000 in
set_option maxHeartbeats 2000000 in
theorem via_8 (B : Nat) (p A : Option Addr) (cp : Nat) (nv : Value) (r : LS) (w : World) (h : RunP w B p A cp nv r) (hl : r.ns.length ≤ 900) (hx : Words r.xs) (ha : 0 ≤ r.a ∧ r.a < 4294967296) (hb : 0 ≤ r.b ∧ r.b < 4294967296) (h1 : r.op = 8) (n0 : ¬ r.line = 0) (n1 : ¬ r.line = 1) (n2 : ¬ r.line = 2) (n3 : ¬ r.line = 3) (n4 : ¬ r.line = 4) (n5 : ¬ r.line = 5) (n6 : ¬ r.line = 6) (P : Value → World → Prop) (ht : ∀ w', RunP w' B p A cp nv r → Only Nil w w' → Calls Tryz.prog 46 #[Value.pointer (some ⟨B, 0, none⟩)] w' fun e w'' => ∃ v, e = .returned v ∧ P v w'') :
    Calls Tryz.prog 32 #[Value.pointer (some ⟨B, 0, none⟩)] w fun e w'' => ∃ v, e = .returned v ∧ P v w'' := by
  have H1 := Lib.hid h1; clear h1
  have HTT := Lib.hid ht
  clear ht
  obtain ⟨ln, H2⟩ : ∃ ln, Hid (r.line = ln) := ⟨_, Lib.hid rfl⟩
  rw [H2.out] at n0 n1 n2 n3 n4 n5 n6
  have HX := Lib.hid hx
  have HL := Lib.hid hl
  have HA := Lib.hid ha
  have HB := Lib.hid hb
  have HP := Lib.hid h
  have c4 : w.cell? ⟨B, 4, none⟩ = some (.int .i64 (8)) := by rw [← H1.out]; exact HP.out.row.cell_ (i := 4) rfl
  have c5 : w.cell? ⟨B, 5, none⟩ = some (.int .i64 (ln)) := by rw [← H2.out]; exact HP.out.row.cell_ (i := 5) rfl
  clear h hl hx ha hb
  go_enter Tryz.func32, Tryz.ntmps32
  go_upto_region 1 with (fail)
  refine wp_region_phase (n := 11) 10 (fun w => w.cell? ⟨B, 4, none⟩ = some (.int .i64 (8)) ∧ w.cell? ⟨B, 5, none⟩ = some (.int .i64 (ln))) rfl (by kernel_rfl) ⟨c4, c5⟩ (fun hHeld => ?_)
  clear c4 c5
  have HP1 := Lib.hid (HP.out.keep (Only.refl Nil w).drew)
  have HO1 := Lib.hid (Only.refl Nil w).drew
  clear HP
  generalize w.drew = w2 at *
  refine mpa 0 rfl (Value.pointer (some ⟨B, 0, none⟩)) (fun w => ?_) ?_
  · go_simp
  (try simp only [Act.put, k1, k2, k3])
  refine mpa 1 rfl (Value.pointer (some ⟨B, 0, none⟩)) (fun w => ?_) ?_
  · go_simp
  (try simp only [Act.put, k1, k2, k3])
  refine mpa 2 rfl (.pointer (some ⟨B, 4, none⟩)) (fun w => ?_) ?_
  · go_simp
  (try simp only [Act.put, k1, k2, k3])
  refine mpa 3 rfl (.pointer (some ⟨B, 4, none⟩)) (fun w => ?_) ?_
  · go_simp
  (try simp only [Act.put, k1, k2, k3])
  refine mpt 4 rfl (.int .i64 (8)) (fun w hSw => ?_) ?_
  · (try dsimp only at hSw)
    go_split_ands
    go_simp
  (try simp only [Act.put, k1, k2, k3])
  refine mpa 5 rfl (Value.pointer (some ⟨B, 0, none⟩)) (fun w => ?_) ?_
  · go_simp
  (try simp only [Act.put, k1, k2, k3])
  refine mpa 6 rfl (Value.pointer (some ⟨B, 0, none⟩)) (fun w => ?_) ?_
  · go_simp
  (try simp only [Act.put, k1, k2, k3])
  refine mpa 7 rfl (.pointer (some ⟨B, 4, none⟩)) (fun w => ?_) ?_
  · go_simp
  (try simp only [Act.put, k1, k2, k3])
  refine mpa 8 rfl (.pointer (some ⟨B, 5, none⟩)) (fun w => ?_) ?_
  · go_simp
  (try simp only [Act.put, k1, k2, k3])
  refine mpt 9 rfl (.int .i64 (ln)) (fun w hSw => ?_) ?_
  · (try dsimp only at hSw)
    go_split_ands
    go_simp
  (try simp only [Act.put, k1, k2, k3])
  refine mpc 10 rfl (by kernel_rfl) (by rfl) (fun K hK => ?_)
  go_simp
  refine hK.out _ _ (.inl (by kernel_rfl)) ?_
  clear hK K
  (try simp only [Act.put, k1, k2, k3])
  refine wpAnyP_done (by kernel_rfl) ?_ _
  clear hHeld
  go_wp2_with fail
  refine (HTT.out _ HP1.out HO1.out).mono ?_
  rintro e w3 ⟨v, rfl, hv⟩
  have HV := Lib.hid hv
  clear hv HTT
  go_wp2
  go_ret
  exact ⟨v, rfl, HV.out⟩
end Go.Proofs.YtocdbeonogfopaaGreat
set_option linter.unusedVariables false
set_option linter.unusedSimpArgs false
namespace Go.Proofs.YtocdbeonogfopaaGreat
open Go.RowKit
set_option maxRecDepth 100000 in
set_option maxHeartbeats 2000000 in
theorem tryOf_no (B : Nat) (p A : Option Addr) (cp : Nat) (nv : Value) (r : LS) (w : World) (h : RunP w B p A cp nv r) (hl : r.ns.length ≤ 900) (hx : Words r.xs) (ha : 0 ≤ r.a ∧ r.a < 4294967296) (hb : 0 ≤ r.b ∧ r.b < 4294967296) (o6 : ¬ r.op = 6) (o7 : ¬ r.op = 7) : Calls Tryz.prog 46 #[Value.pointer (some ⟨B, 0, none⟩)] w fun e w' => e = .returned .nilFunc ∧ Only Nil w w' := by
  obtain ⟨ol, H1⟩ : ∃ ol, Hid (r.op = ol) := ⟨_, Lib.hid rfl⟩; rw [H1.out] at o6 o7
  obtain ⟨ln, H2⟩ : ∃ ln, Hid (r.line = ln) := ⟨_, Lib.hid rfl⟩
  skip
  have HX := Lib.hid hx
  have HL := Lib.hid hl
  have HA := Lib.hid ha
  have HB := Lib.hid hb
  have HP := Lib.hid h
  have c4 : w.cell? ⟨B, 4, none⟩ = some (.int .i64 (ol)) := by rw [← H1.out]; exact HP.out.row.cell_ (i := 4) rfl
  have c5 : w.cell? ⟨B, 5, none⟩ = some (.int .i64 (ln)) := by rw [← H2.out]; exact HP.out.row.cell_ (i := 5) rfl
  clear h hl hx ha hb
  go_enter Tryz.func46, Tryz.ntmps46
  go_upto_region 1 with (fail)
  refine wp_region_phase (n := 11) 10 (fun w => w.cell? ⟨B, 4, none⟩ = some (.int .i64 (ol)) ∧ w.cell? ⟨B, 5, none⟩ = some (.int .i64 (ln))) rfl (by kernel_rfl) ⟨c4, c5⟩ (fun hHeld => ?_)
  clear c4 c5
  have HP1 := Lib.hid (HP.out.keep (Only.refl Nil w).drew)
  have HO1 := Lib.hid (Only.refl Nil w).drew
  clear HP
  generalize w.drew = w2 at *
  refine mpa 0 rfl (Value.pointer (some ⟨B, 0, none⟩)) (fun w => ?_) ?_
  · go_simp
  (try simp only [Act.put, k1, k2, k3])
  refine mpa 1 rfl (Value.pointer (some ⟨B, 0, none⟩)) (fun w => ?_) ?_
  · go_simp
  (try simp only [Act.put, k1, k2, k3])
  refine mpa 2 rfl (.pointer (some ⟨B, 4, none⟩)) (fun w => ?_) ?_
  · go_simp
  (try simp only [Act.put, k1, k2, k3])
  refine mpa 3 rfl (.pointer (some ⟨B, 4, none⟩)) (fun w => ?_) ?_
  · go_simp
  (try simp only [Act.put, k1, k2, k3])
  refine mpt 4 rfl (.int .i64 (ol)) (fun w hSw => ?_) ?_
  · (try dsimp only at hSw)
    go_split_ands
    go_simp
  (try simp only [Act.put, k1, k2, k3])
  refine mpa 5 rfl (Value.pointer (some ⟨B, 0, none⟩)) (fun w => ?_) ?_
  · go_simp
  (try simp only [Act.put, k1, k2, k3])
  refine mpa 6 rfl (Value.pointer (some ⟨B, 0, none⟩)) (fun w => ?_) ?_
  · go_simp
  (try simp only [Act.put, k1, k2, k3])
  refine mpa 7 rfl (.pointer (some ⟨B, 4, none⟩)) (fun w => ?_) ?_
  · go_simp
  (try simp only [Act.put, k1, k2, k3])
  refine mpa 8 rfl (.pointer (some ⟨B, 5, none⟩)) (fun w => ?_) ?_
  · go_simp
  (try simp only [Act.put, k1, k2, k3])
  refine mpt 9 rfl (.int .i64 (ln)) (fun w hSw => ?_) ?_
  · (try dsimp only at hSw)
    go_split_ands
    go_simp
  (try simp only [Act.put, k1, k2, k3])
  refine mpc 10 rfl (by kernel_rfl) (by rfl) (fun K hK => ?_)
  go_simp
  refine hK.out _ _ (.inl (by kernel_rfl)) ?_
  clear hK K
  (try simp only [Act.put, k1, k2, k3])
  refine wpAnyP_done (by kernel_rfl) ?_ _
  clear hHeld
  go_wp2
  go_ret
  exact ⟨rfl, HO1.out⟩
set_option maxRecDepth 100000 in
set_option maxHeartbeats 2000000 in
theorem via_1 (B : Nat) (p A : Option Addr) (cp : Nat) (nv : Value) (r : LS) (w : World) (h : RunP w B p A cp nv r) (hl : r.ns.length ≤ 900) (hx : Words r.xs) (ha : 0 ≤ r.a ∧ r.a < 4294967296) (hb : 0 ≤ r.b ∧ r.b < 4294967296) (h1 : r.op = 1) (n0 : ¬ r.line = 0) (n1 : ¬ r.line = 1) (P : Value → World → Prop) (ht : ∀ w', RunP w' B p A cp nv r → Only Nil w w' → Calls Tryz.prog 46 #[Value.pointer (some ⟨B, 0, none⟩)] w' fun e w'' => ∃ v, e = .returned v ∧ P v w'') :
    Calls Tryz.prog 32 #[Value.pointer (some ⟨B, 0, none⟩)] w fun e w'' => ∃ v, e = .returned v ∧ P v w'' := by
  have H1 := Lib.hid h1; clear h1
  have HTT := Lib.hid ht
  clear ht
  obtain ⟨ln, H2⟩ : ∃ ln, Hid (r.line = ln) := ⟨_, Lib.hid rfl⟩
  rw [H2.out] at n0 n1
  have HX := Lib.hid hx
  have HL := Lib.hid hl
  have HA := Lib.hid ha
  have HB := Lib.hid hb
  have HP := Lib.hid h
  have c4 : w.cell? ⟨B, 4, none⟩ = some (.int .i64 (1)) := by rw [← H1.out]; exact HP.out.row.cell_ (i := 4) rfl
  have c5 : w.cell? ⟨B, 5, none⟩ = some (.int .i64 (ln)) := by rw [← H2.out]; exact HP.out.row.cell_ (i := 5) rfl
  clear h hl hx ha hb
  go_enter Tryz.func32, Tryz.ntmps32
  go_upto_region 1 with (fail)
  refine wp_region_phase (n := 11) 10 (fun w => w.cell? ⟨B, 4, none⟩ = some (.int .i64 (1)) ∧ w.cell? ⟨B, 5, none⟩ = some (.int .i64 (ln))) rfl (by kernel_rfl) ⟨c4, c5⟩ (fun hHeld => ?_)
  clear c4 c5
  have HP1 := Lib.hid (HP.out.keep (Only.refl Nil w).drew)
  have HO1 := Lib.hid (Only.refl Nil w).drew
  clear HP
  generalize w.drew = w2 at *
  refine mpa 0 rfl (Value.pointer (some ⟨B, 0, none⟩)) (fun w => ?_) ?_
  · go_simp
  (try simp only [Act.put, k1, k2, k3])
  refine mpa 1 rfl (Value.pointer (some ⟨B, 0, none⟩)) (fun w => ?_) ?_
  · go_simp
  (try simp only [Act.put, k1, k2, k3])
  refine mpa 2 rfl (.pointer (some ⟨B, 4, none⟩)) (fun w => ?_) ?_
  · go_simp
  (try simp only [Act.put, k1, k2, k3])
  refine mpa 3 rfl (.pointer (some ⟨B, 4, none⟩)) (fun w => ?_) ?_
  · go_simp
  (try simp only [Act.put, k1, k2, k3])
  refine mpt 4 rfl (.int .i64 (1)) (fun w hSw => ?_) ?_
  · (try dsimp only at hSw)
    go_split_ands
    go_simp
  (try simp only [Act.put, k1, k2, k3])
  refine mpa 5 rfl (Value.pointer (some ⟨B, 0, none⟩)) (fun w => ?_) ?_
  · go_simp
  (try simp only [Act.put, k1, k2, k3])
  refine mpa 6 rfl (Value.pointer (some ⟨B, 0, none⟩)) (fun w => ?_) ?_
  · go_simp
  (try simp only [Act.put, k1, k2, k3])
  refine mpa 7 rfl (.pointer (some ⟨B, 4, none⟩)) (fun w => ?_) ?_
  · go_simp
  (try simp only [Act.put, k1, k2, k3])
  refine mpa 8 rfl (.pointer (some ⟨B, 5, none⟩)) (fun w => ?_) ?_
  · go_simp
  (try simp only [Act.put, k1, k2, k3])
  refine mpt 9 rfl (.int .i64 (ln)) (fun w hSw => ?_) ?_
  · (try dsimp only at hSw)
    go_split_ands
    go_simp
  (try simp only [Act.put, k1, k2, k3])
  refine mpc 10 rfl (by kernel_rfl) (by rfl) (fun K hK => ?_)
  go_simp
  refine hK.out _ _ (.inl (by kernel_rfl)) ?_
  clear hK K
  (try simp only [Act.put, k1, k2, k3])
  refine wpAnyP_done (by kernel_rfl) ?_ _
  clear hHeld
  go_wp2_with fail
  refine (HTT.out _ HP1.out HO1.out).mono ?_
  rintro e w3 ⟨v, rfl, hv⟩
  have HV := Lib.hid hv
  clear hv HTT
  go_wp2
  go_ret
  exact ⟨v, rfl, HV.out⟩
set_option maxRecDepth 100000 in
set_option maxHeartbeats 2000000 in
theorem via_4 (B : Nat) (p A : Option Addr) (cp : Nat) (nv : Value) (r : LS) (w : World) (h : RunP w B p A cp nv r) (hl : r.ns.length ≤ 900) (hx : Words r.xs) (ha : 0 ≤ r.a ∧ r.a < 4294967296) (hb : 0 ≤ r.b ∧ r.b < 4294967296) (h1 : r.op = 4) (n0 : ¬ r.line = 0) (n1 : ¬ r.line = 1) (n2 : ¬ r.line = 2) (n3 : ¬ r.line = 3) (n4 : ¬ r.line = 4) (n5 : ¬ r.line = 5) (n6 : ¬ r.line = 6) (P : Value → World → Prop) (ht : ∀ w', RunP w' B p A cp nv r → Only Nil w w' → Calls Tryz.prog 46 #[Value.pointer (some ⟨B, 0, none⟩)] w' fun e w'' => ∃ v, e = .returned v ∧ P v w'') :
    Calls Tryz.prog 32 #[Value.pointer (some ⟨B, 0, none⟩)] w fun e w'' => ∃ v, e = .returned v ∧ P v w'' := by
  have H1 := Lib.hid h1; clear h1
  have HTT := Lib.hid ht
  clear ht
  obtain ⟨ln, H2⟩ : ∃ ln, Hid (r.line = ln) := ⟨_, Lib.hid rfl⟩
  rw [H2.out] at n0 n1 n2 n3 n4 n5 n6
  have HX := Lib.hid hx
  have HL := Lib.hid hl
  have HA := Lib.hid ha
  have HB := Lib.hid hb
  have HP := Lib.hid h
  have c4 : w.cell? ⟨B, 4, none⟩ = some (.int .i64 (4)) := by rw [← H1.out]; exact HP.out.row.cell_ (i := 4) rfl
  have c5 : w.cell? ⟨B, 5, none⟩ = some (.int .i64 (ln)) := by rw [← H2.out]; exact HP.out.row.cell_ (i := 5) rfl
  clear h hl hx ha hb
  go_enter Tryz.func32, Tryz.ntmps32
  go_upto_region 1 with (fail)
  refine wp_region_phase (n := 11) 10 (fun w => w.cell? ⟨B, 4, none⟩ = some (.int .i64 (4)) ∧ w.cell? ⟨B, 5, none⟩ = some (.int .i64 (ln))) rfl (by kernel_rfl) ⟨c4, c5⟩ (fun hHeld => ?_)
  clear c4 c5
  have HP1 := Lib.hid (HP.out.keep (Only.refl Nil w).drew)
  have HO1 := Lib.hid (Only.refl Nil w).drew
  clear HP
  generalize w.drew = w2 at *
  refine mpa 0 rfl (Value.pointer (some ⟨B, 0, none⟩)) (fun w => ?_) ?_
  · go_simp
  (try simp only [Act.put, k1, k2, k3])
  refine mpa 1 rfl (Value.pointer (some ⟨B, 0, none⟩)) (fun w => ?_) ?_
  · go_simp
  (try simp only [Act.put, k1, k2, k3])
  refine mpa 2 rfl (.pointer (some ⟨B, 4, none⟩)) (fun w => ?_) ?_
  · go_simp
  (try simp only [Act.put, k1, k2, k3])
  refine mpa 3 rfl (.pointer (some ⟨B, 4, none⟩)) (fun w => ?_) ?_
  · go_simp
  (try simp only [Act.put, k1, k2, k3])
  refine mpt 4 rfl (.int .i64 (4)) (fun w hSw => ?_) ?_
  · (try dsimp only at hSw)
    go_split_ands
    go_simp
  (try simp only [Act.put, k1, k2, k3])
  refine mpa 5 rfl (Value.pointer (some ⟨B, 0, none⟩)) (fun w => ?_) ?_
  · go_simp
  (try simp only [Act.put, k1, k2, k3])
  refine mpa 6 rfl (Value.pointer (some ⟨B, 0, none⟩)) (fun w => ?_) ?_
  · go_simp
  (try simp only [Act.put, k1, k2, k3])
  refine mpa 7 rfl (.pointer (some ⟨B, 4, none⟩)) (fun w => ?_) ?_
  · go_simp
  (try simp only [Act.put, k1, k2, k3])
  refine mpa 8 rfl (.pointer (some ⟨B, 5, none⟩)) (fun w => ?_) ?_
  · go_simp
  (try simp only [Act.put, k1, k2, k3])
  refine mpt 9 rfl (.int .i64 (ln)) (fun w hSw => ?_) ?_
  · (try dsimp only at hSw)
    go_split_ands
    go_simp
  (try simp only [Act.put, k1, k2, k3])
  refine mpc 10 rfl (by kernel_rfl) (by rfl) (fun K hK => ?_)
  go_simp
  refine hK.out _ _ (.inl (by kernel_rfl)) ?_
  clear hK K
  (try simp only [Act.put, k1, k2, k3])
  refine wpAnyP_done (by kernel_rfl) ?_ _
  clear hHeld
  go_wp2_with fail
  refine (HTT.out _ HP1.out HO1.out).mono ?_
  rintro e w3 ⟨v, rfl, hv⟩
  have HV := Lib.hid hv
  clear hv HTT
  go_wp2
  go_ret
  exact ⟨v, rfl, HV.out⟩
set_option maxRecDepth 100000 in
set_option maxHeartbeats 2000000 in
theorem via_no (B : Nat) (p A : Option Addr) (cp : Nat) (nv : Value) (r : LS) (w : World) (h : RunP w B p A cp nv r) (hl : r.ns.length ≤ 900) (hx : Words r.xs) (ha : 0 ≤ r.a ∧ r.a < 4294967296) (hb : 0 ≤ r.b ∧ r.b < 4294967296) (o1 : ¬ r.op = 1) (o2 : ¬ r.op = 2) (o3 : ¬ r.op = 3) (o4 : ¬ r.op = 4) (o5 : ¬ r.op = 5) (o8 : ¬ r.op = 8) (P : Value → World → Prop) (ht : ∀ w', RunP w' B p A cp nv r → Only Nil w w' → Calls Tryz.prog 46 #[Value.pointer (some ⟨B, 0, none⟩)] w' fun e w'' => ∃ v, e = .returned v ∧ P v w'') :
    Calls Tryz.prog 32 #[Value.pointer (some ⟨B, 0, none⟩)] w fun e w'' => ∃ v, e = .returned v ∧ P v w'' := by
  obtain ⟨ol, H1⟩ : ∃ ol, Hid (r.op = ol) := ⟨_, Lib.hid rfl⟩; rw [H1.out] at o1 o2 o3 o4 o5 o8
  have HTT := Lib.hid ht
  clear ht
  obtain ⟨ln, H2⟩ : ∃ ln, Hid (r.line = ln) := ⟨_, Lib.hid rfl⟩
  skip
  have HX := Lib.hid hx
  have HL := Lib.hid hl
  have HA := Lib.hid ha
  have HB := Lib.hid hb
  have HP := Lib.hid h
  have c4 : w.cell? ⟨B, 4, none⟩ = some (.int .i64 (ol)) := by rw [← H1.out]; exact HP.out.row.cell_ (i := 4) rfl
  have c5 : w.cell? ⟨B, 5, none⟩ = some (.int .i64 (ln)) := by rw [← H2.out]; exact HP.out.row.cell_ (i := 5) rfl
  clear h hl hx ha hb
  go_enter Tryz.func32, Tryz.ntmps32
  go_upto_region 1 with (fail)
  refine wp_region_phase (n := 11) 10 (fun w => w.cell? ⟨B, 4, none⟩ = some (.int .i64 (ol)) ∧ w.cell? ⟨B, 5, none⟩ = some (.int .i64 (ln))) rfl (by kernel_rfl) ⟨c4, c5⟩ (fun hHeld => ?_)
  clear c4 c5
  have HP1 := Lib.hid (HP.out.keep (Only.refl Nil w).drew)
  have HO1 := Lib.hid (Only.refl Nil w).drew
  clear HP
  generalize w.drew = w2 at *
  refine mpa 0 rfl (Value.pointer (some ⟨B, 0, none⟩)) (fun w => ?_) ?_
  · go_simp
  (try simp only [Act.put, k1, k2, k3])
  refine mpa 1 rfl (Value.pointer (some ⟨B, 0, none⟩)) (fun w => ?_) ?_
  · go_simp
  (try simp only [Act.put, k1, k2, k3])
  refine mpa 2 rfl (.pointer (some ⟨B, 4, none⟩)) (fun w => ?_) ?_
  · go_simp
  (try simp only [Act.put, k1, k2, k3])
  refine mpa 3 rfl (.pointer (some ⟨B, 4, none⟩)) (fun w => ?_) ?_
  · go_simp
  (try simp only [Act.put, k1, k2, k3])
  refine mpt 4 rfl (.int .i64 (ol)) (fun w hSw => ?_) ?_
  · (try dsimp only at hSw)
    go_split_ands
    go_simp
  (try simp only [Act.put, k1, k2, k3])
  refine mpa 5 rfl (Value.pointer (some ⟨B, 0, none⟩)) (fun w => ?_) ?_
  · go_simp
  (try simp only [Act.put, k1, k2, k3])
  refine mpa 6 rfl (Value.pointer (some ⟨B, 0, none⟩)) (fun w => ?_) ?_
  · go_simp
  (try simp only [Act.put, k1, k2, k3])
  refine mpa 7 rfl (.pointer (some ⟨B, 4, none⟩)) (fun w => ?_) ?_
  · go_simp
  (try simp only [Act.put, k1, k2, k3])
  refine mpa 8 rfl (.pointer (some ⟨B, 5, none⟩)) (fun w => ?_) ?_
  · go_simp
  (try simp only [Act.put, k1, k2, k3])
  refine mpt 9 rfl (.int .i64 (ln)) (fun w hSw => ?_) ?_
  · (try dsimp only at hSw)
    go_split_ands
    go_simp
  (try simp only [Act.put, k1, k2, k3])
  refine mpc 10 rfl (by kernel_rfl) (by rfl) (fun K hK => ?_)
  go_simp
  refine hK.out _ _ (.inl (by kernel_rfl)) ?_
  clear hK K
  (try simp only [Act.put, k1, k2, k3])
  refine wpAnyP_done (by kernel_rfl) ?_ _
  clear hHeld
  go_wp2_with fail
  refine (HTT.out _ HP1.out HO1.out).mono ?_
  rintro e w3 ⟨v, rfl, hv⟩
  have HV := Lib.hid hv
  clear hv HTT
  go_wp2
  go_ret
  exact ⟨v, rfl, HV.out⟩
end Go.Proofs.YtocdbeonogfopaaGreat
set_option linter.unusedVariables false
set_option linter.unusedSimpArgs false
namespace Go.Proofs.YtocdbeonogfopaaGreat
open Go.RowKit
set_option maxRecDepth 100000 in
theorem neq_nilC (w : World) : (binOp .neq 1 .nilFunc .nilFunc).run Tryz.prog w = .ok (.bool false) w := by
  first | rfl | kernel_rfl
set_option maxRecDepth 100000 in
theorem neq_fnC (f : Fn) (first cap : Array Value) (w : World) : (binOp .neq 1 (.func f first cap) .nilFunc).run Tryz.prog w = .ok (.bool true) w := by
  first | rfl | kernel_rfl
theorem runs_FAPP1 (B : Nat) (p A : Option Addr) (cp : Nat) (r' : LS) (w : World) (hs : Calls Tryz.prog 32 #[Value.pointer (some ⟨B, 0, none⟩)] w (Clo 58 B p A cp r' w)) : Calls Tryz.prog 22 #[Value.pointer (some ⟨B, 0, none⟩)] w (Done B p A cp w (.tuple #[]) r') := by
  have HS := Lib.hid hs
  clear hs
  have hn := neq_fnC
  go_enter Tryz.func22, Tryz.ntmps22
  go_wp2_with fail
  refine HS.out.mono ?_
  rintro e w1 ⟨caps, rfl, hO, hC⟩
  have HO := Lib.hid hO
  have HC := Lib.hid hC
  clear hO hC HS
  go_wp2_with fail
  refine HC.out.mono ?_
  rintro e w2 ⟨rfl, hO, nv2, hP⟩
  have HO2 := Lib.hid ((HO.out.mono (T := TurnB B A) (fun _ _ h => h.elim)).trans hO)
  have HP2 := Lib.hid hP
  clear hO hP HO HC
  go_wp2
  go_returns
  exact ⟨rfl, HO2.out, nv2, HP2.out⟩
theorem runs_FAW1 (B : Nat) (p A : Option Addr) (cp : Nat) (r' : LS) (w : World) (hs : Calls Tryz.prog 32 #[Value.pointer (some ⟨B, 0, none⟩)] w (Clo 62 B p A cp r' w)) : Calls Tryz.prog 22 #[Value.pointer (some ⟨B, 0, none⟩)] w (Done B p A cp w (.tuple #[]) r') := by
  have HS := Lib.hid hs
  clear hs
  have hn := neq_fnC
  go_enter Tryz.func22, Tryz.ntmps22
  go_wp2_with fail
  refine HS.out.mono ?_
  rintro e w1 ⟨caps, rfl, hO, hC⟩
  have HO := Lib.hid hO
  have HC := Lib.hid hC
  clear hO hC HS
  go_wp2_with fail
  refine HC.out.mono ?_
  rintro e w2 ⟨rfl, hO, nv2, hP⟩
  have HO2 := Lib.hid ((HO.out.mono (T := TurnB B A) (fun _ _ h => h.elim)).trans hO)
  have HP2 := Lib.hid hP
  clear hO hP HO HC
  go_wp2
  go_returns
  exact ⟨rfl, HO2.out, nv2, HP2.out⟩
theorem runs_FCNT1 (B : Nat) (p A : Option Addr) (cp : Nat) (r' : LS) (w : World) (hs : Calls Tryz.prog 32 #[Value.pointer (some ⟨B, 0, none⟩)] w (Clo 68 B p A cp r' w)) : Calls Tryz.prog 22 #[Value.pointer (some ⟨B, 0, none⟩)] w (Done B p A cp w (.tuple #[]) r') := by
  have HS := Lib.hid hs
  clear hs
  have hn := neq_fnC
  go_enter Tryz.func22, Tryz.ntmps22
  go_wp2_with fail
  refine HS.out.mono ?_
  rintro e w1 ⟨caps, rfl, hO, hC⟩
  have HO := Lib.hid hO
  have HC := Lib.hid hC
  clear hO hC HS
  go_wp2_with fail
  refine HC.out.mono ?_
  rintro e w2 ⟨rfl, hO, nv2, hP⟩
  have HO2 := Lib.hid ((HO.out.mono (T := TurnB B A) (fun _ _ h => h.elim)).trans hO)
  have HP2 := Lib.hid hP
  clear hO hP HO HC
  go_wp2
  go_returns
  exact ⟨rfl, HO2.out, nv2, HP2.out⟩
theorem runs_FCOM1 (B : Nat) (p A : Option Addr) (cp : Nat) (r' : LS) (w : World) (hs : Calls Tryz.prog 32 #[Value.pointer (some ⟨B, 0, none⟩)] w (Clo 116 B p A cp r' w)) : Calls Tryz.prog 22 #[Value.pointer (some ⟨B, 0, none⟩)] w (Done B p A cp w (.tuple #[]) r') := by
  have HS := Lib.hid hs
  clear hs
  have hn := neq_fnC
  go_enter Tryz.func22, Tryz.ntmps22
  go_wp2_with fail
  refine HS.out.mono ?_
  rintro e w1 ⟨caps, rfl, hO, hC⟩
  have HO := Lib.hid hO
  have HC := Lib.hid hC
  clear hO hC HS
  go_wp2_with fail
  refine HC.out.mono ?_
  rintro e w2 ⟨rfl, hO, nv2, hP⟩
  have HO2 := Lib.hid ((HO.out.mono (T := TurnB B A) (fun _ _ h => h.elim)).trans hO)
  have HP2 := Lib.hid hP
  clear hO hP HO HC
  go_wp2
  go_returns
  exact ⟨rfl, HO2.out, nv2, HP2.out⟩
theorem runs_FENT1 (B : Nat) (p A : Option Addr) (cp : Nat) (r' : LS) (w : World) (hs : Calls Tryz.prog 32 #[Value.pointer (some ⟨B, 0, none⟩)] w (Clo 53 B p A cp r' w)) : Calls Tryz.prog 22 #[Value.pointer (some ⟨B, 0, none⟩)] w (Done B p A cp w (.tuple #[]) r') := by
  have HS := Lib.hid hs
  clear hs
  have hn := neq_fnC
  go_enter Tryz.func22, Tryz.ntmps22
  go_wp2_with fail
  refine HS.out.mono ?_
  rintro e w1 ⟨caps, rfl, hO, hC⟩
  have HO := Lib.hid hO
  have HC := Lib.hid hC
  clear hO hC HS
  go_wp2_with fail
  refine HC.out.mono ?_
  rintro e w2 ⟨rfl, hO, nv2, hP⟩
  have HO2 := Lib.hid ((HO.out.mono (T := TurnB B A) (fun _ _ h => h.elim)).trans hO)
  have HP2 := Lib.hid hP
  clear hO hP HO HC
  go_wp2
  go_returns
  exact ⟨rfl, HO2.out, nv2, HP2.out⟩
theorem runs_FGV1 (B : Nat) (p A : Option Addr) (cp : Nat) (r' : LS) (w : World) (hs : Calls Tryz.prog 32 #[Value.pointer (some ⟨B, 0, none⟩)] w (Clo 70 B p A cp r' w)) : Calls Tryz.prog 22 #[Value.pointer (some ⟨B, 0, none⟩)] w (Done B p A cp w (.tuple #[]) r') := by
  have HS := Lib.hid hs
  clear hs
  have hn := neq_fnC
  go_enter Tryz.func22, Tryz.ntmps22
  go_wp2_with fail
  refine HS.out.mono ?_
  rintro e w1 ⟨caps, rfl, hO, hC⟩
  have HO := Lib.hid hO
  have HC := Lib.hid hC
  clear hO hC HS
  go_wp2_with fail
  refine HC.out.mono ?_
  rintro e w2 ⟨rfl, hO, nv2, hP⟩
  have HO2 := Lib.hid ((HO.out.mono (T := TurnB B A) (fun _ _ h => h.elim)).trans hO)
  have HP2 := Lib.hid hP
  clear hO hP HO HC
  go_wp2
  go_returns
  exact ⟨rfl, HO2.out, nv2, HP2.out⟩
theorem runs_FKEEP1 (B : Nat) (p A : Option Addr) (cp : Nat) (r' : LS) (w : World) (hs : Calls Tryz.prog 32 #[Value.pointer (some ⟨B, 0, none⟩)] w (Clo 56 B p A cp r' w)) : Calls Tryz.prog 22 #[Value.pointer (some ⟨B, 0, none⟩)] w (Done B p A cp w (.tuple #[]) r') := by
  have HS := Lib.hid hs
  clear hs
  have hn := neq_fnC
  go_enter Tryz.func22, Tryz.ntmps22
  go_wp2_with fail
  refine HS.out.mono ?_
  rintro e w1 ⟨caps, rfl, hO, hC⟩
  have HO := Lib.hid hO
  have HC := Lib.hid hC
  clear hO hC HS
  go_wp2_with fail
  refine HC.out.mono ?_
  rintro e w2 ⟨rfl, hO, nv2, hP⟩
  have HO2 := Lib.hid ((HO.out.mono (T := TurnB B A) (fun _ _ h => h.elim)).trans hO)
  have HP2 := Lib.hid hP
  clear hO hP HO HC
  go_wp2
  go_returns
  exact ⟨rfl, HO2.out, nv2, HP2.out⟩
theorem runs_FOT1 (B : Nat) (p A : Option Addr) (cp : Nat) (r' : LS) (w : World) (hs : Calls Tryz.prog 32 #[Value.pointer (some ⟨B, 0, none⟩)] w (Clo 119 B p A cp r' w)) : Calls Tryz.prog 22 #[Value.pointer (some ⟨B, 0, none⟩)] w (Done B p A cp w (.tuple #[]) r') := by
  have HS := Lib.hid hs
  clear hs
  have hn := neq_fnC
  go_enter Tryz.func22, Tryz.ntmps22
  go_wp2_with fail
  refine HS.out.mono ?_
  rintro e w1 ⟨caps, rfl, hO, hC⟩
  have HO := Lib.hid hO
  have HC := Lib.hid hC
  clear hO hC HS
  go_wp2_with fail
  refine HC.out.mono ?_
  rintro e w2 ⟨rfl, hO, nv2, hP⟩
  have HO2 := Lib.hid ((HO.out.mono (T := TurnB B A) (fun _ _ h => h.elim)).trans hO)
  have HP2 := Lib.hid hP
  clear hO hP HO HC
  go_wp2
  go_returns
  exact ⟨rfl, HO2.out, nv2, HP2.out⟩
theorem runs_FREAD1 (B : Nat) (p A : Option Addr) (cp : Nat) (r' : LS) (w : World) (hs : Calls Tryz.prog 32 #[Value.pointer (some ⟨B, 0, none⟩)] w (Clo 51 B p A cp r' w)) : Calls Tryz.prog 22 #[Value.pointer (some ⟨B, 0, none⟩)] w (Done B p A cp w (.tuple #[]) r') := by
  have HS := Lib.hid hs
  clear hs
  have hn := neq_fnC
  go_enter Tryz.func22, Tryz.ntmps22
  go_wp2_with fail
  refine HS.out.mono ?_
  rintro e w1 ⟨caps, rfl, hO, hC⟩
  have HO := Lib.hid hO
  have HC := Lib.hid hC
  clear hO hC HS
  go_wp2_with fail
  refine HC.out.mono ?_
  rintro e w2 ⟨rfl, hO, nv2, hP⟩
  have HO2 := Lib.hid ((HO.out.mono (T := TurnB B A) (fun _ _ h => h.elim)).trans hO)
  have HP2 := Lib.hid hP
  clear hO hP HO HC
  go_wp2
  go_returns
  exact ⟨rfl, HO2.out, nv2, HP2.out⟩
theorem runs_FSTOP1 (B : Nat) (p A : Option Addr) (cp : Nat) (r' : LS) (w : World) (hs : Calls Tryz.prog 32 #[Value.pointer (some ⟨B, 0, none⟩)] w (Clo 121 B p A cp r' w)) : Calls Tryz.prog 22 #[Value.pointer (some ⟨B, 0, none⟩)] w (Done B p A cp w (.tuple #[]) r') := by
  have HS := Lib.hid hs
  clear hs
  have hn := neq_fnC
  go_enter Tryz.func22, Tryz.ntmps22
  go_wp2_with fail
  refine HS.out.mono ?_
  rintro e w1 ⟨caps, rfl, hO, hC⟩
  have HO := Lib.hid hO
  have HC := Lib.hid hC
  clear hO hC HS
  go_wp2_with fail
  refine HC.out.mono ?_
  rintro e w2 ⟨rfl, hO, nv2, hP⟩
  have HO2 := Lib.hid ((HO.out.mono (T := TurnB B A) (fun _ _ h => h.elim)).trans hO)
  have HP2 := Lib.hid hP
  clear hO hP HO HC
  go_wp2
  go_returns
  exact ⟨rfl, HO2.out, nv2, HP2.out⟩
theorem runs_FTRY1 (B : Nat) (p A : Option Addr) (cp : Nat) (r' : LS) (w : World) (hs : Calls Tryz.prog 32 #[Value.pointer (some ⟨B, 0, none⟩)] w (Clo 114 B p A cp r' w)) : Calls Tryz.prog 22 #[Value.pointer (some ⟨B, 0, none⟩)] w (Done B p A cp w (.tuple #[]) r') := by
  have HS := Lib.hid hs
  clear hs
  have hn := neq_fnC
  go_enter Tryz.func22, Tryz.ntmps22
  go_wp2_with fail
  refine HS.out.mono ?_
  rintro e w1 ⟨caps, rfl, hO, hC⟩
  have HO := Lib.hid hO
  have HC := Lib.hid hC
  clear hO hC HS
  go_wp2_with fail
  refine HC.out.mono ?_
  rintro e w2 ⟨rfl, hO, nv2, hP⟩
  have HO2 := Lib.hid ((HO.out.mono (T := TurnB B A) (fun _ _ h => h.elim)).trans hO)
  have HP2 := Lib.hid hP
  clear hO hP HO HC
  go_wp2
  go_returns
  exact ⟨rfl, HO2.out, nv2, HP2.out⟩
theorem runs_FVAN1 (B : Nat) (p A : Option Addr) (cp : Nat) (r' : LS) (w : World) (hs : Calls Tryz.prog 32 #[Value.pointer (some ⟨B, 0, none⟩)] w (Clo 66 B p A cp r' w)) : Calls Tryz.prog 22 #[Value.pointer (some ⟨B, 0, none⟩)] w (Done B p A cp w (.tuple #[]) r') := by
  have HS := Lib.hid hs
  clear hs
  have hn := neq_fnC
  go_enter Tryz.func22, Tryz.ntmps22
  go_wp2_with fail
  refine HS.out.mono ?_
  rintro e w1 ⟨caps, rfl, hO, hC⟩
  have HO := Lib.hid hO
  have HC := Lib.hid hC
  clear hO hC HS
  go_wp2_with fail
  refine HC.out.mono ?_
  rintro e w2 ⟨rfl, hO, nv2, hP⟩
  have HO2 := Lib.hid ((HO.out.mono (T := TurnB B A) (fun _ _ h => h.elim)).trans hO)
  have HP2 := Lib.hid hP
  clear hO hP HO HC
  go_wp2
  go_returns
  exact ⟨rfl, HO2.out, nv2, HP2.out⟩
theorem runs_FWEIGH1 (B : Nat) (p A : Option Addr) (cp : Nat) (r' : LS) (w : World) (hs : Calls Tryz.prog 32 #[Value.pointer (some ⟨B, 0, none⟩)] w (Clo 117 B p A cp r' w)) : Calls Tryz.prog 22 #[Value.pointer (some ⟨B, 0, none⟩)] w (Done B p A cp w (.tuple #[]) r') := by
  have HS := Lib.hid hs
  clear hs
  have hn := neq_fnC
  go_enter Tryz.func22, Tryz.ntmps22
  go_wp2_with fail
  refine HS.out.mono ?_
  rintro e w1 ⟨caps, rfl, hO, hC⟩
  have HO := Lib.hid hO
  have HC := Lib.hid hC
  clear hO hC HS
  go_wp2_with fail
  refine HC.out.mono ?_
  rintro e w2 ⟨rfl, hO, nv2, hP⟩
  have HO2 := Lib.hid ((HO.out.mono (T := TurnB B A) (fun _ _ h => h.elim)).trans hO)
  have HP2 := Lib.hid hP
  clear hO hP HO HC
  go_wp2
  go_returns
  exact ⟨rfl, HO2.out, nv2, HP2.out⟩
theorem runs_no (B : Nat) (p A : Option Addr) (cp : Nat) (nv : Value) (r : LS) (w : World) (h : RunP w B p A cp nv r) (hs : Calls Tryz.prog 32 #[Value.pointer (some ⟨B, 0, none⟩)] w fun e w' => e = .returned .nilFunc ∧ Only Nil w w') : Calls Tryz.prog 22 #[Value.pointer (some ⟨B, 0, none⟩)] w (Done B p A cp w (.tuple #[]) r) := by
  have HS := Lib.hid hs
  have HP := Lib.hid h
  clear hs h
  have hn := neq_nilC
  go_enter Tryz.func22, Tryz.ntmps22
  go_wp2_with fail
  refine HS.out.mono ?_
  rintro e w1 ⟨rfl, hO⟩
  have HO := Lib.hid hO
  clear hO HS
  go_wp2
  go_returns
  exact ⟨rfl, HO.out.mono (fun _ _ h => h.elim), nv, HP.out.keep HO.out⟩
theorem clo_via {B : Nat} {p A : Option Addr} {cp : Nat} {nv : Value} {r r' : LS} {w : World} {F : Nat}
    (hv : ∀ P : Value → World → Prop, (∀ w', RunP w' B p A cp nv r → Only Nil w w' → Calls Tryz.prog 46 #[Value.pointer (some ⟨B, 0, none⟩)] w' fun e w'' => ∃ v, e = .returned v ∧ P v w'') → Calls Tryz.prog 32 #[Value.pointer (some ⟨B, 0, none⟩)] w fun e w'' => ∃ v, e = .returned v ∧ P v w'')
    (ht : ∀ w', RunP w' B p A cp nv r → Calls Tryz.prog 46 #[Value.pointer (some ⟨B, 0, none⟩)] w' (Clo F B p A cp r' w')) : Calls Tryz.prog 32 #[Value.pointer (some ⟨B, 0, none⟩)] w (Clo F B p A cp r' w) := by
  refine (hv (fun v w'' => ∃ caps, v = .func (.func F) #[] caps ∧ Only Nil w w'' ∧ Calls Tryz.prog F caps w'' (Done B p A cp w'' (.tuple #[]) r')) (fun w' h' ho => (ht w' h').mono ?_)).mono ?_
  · rintro e w2 ⟨caps, rfl, hO, hC⟩
    exact ⟨_, rfl, caps, rfl, ho.trans hO, hC⟩
  · rintro e w2 ⟨v, rfl, caps, rfl, hO, hC⟩
    exact ⟨caps, rfl, hO, hC⟩
theorem no_via {B : Nat} {p A : Option Addr} {cp : Nat} {nv : Value} {r : LS} {w : World}
    (hv : ∀ P : Value → World → Prop, (∀ w', RunP w' B p A cp nv r → Only Nil w w' → Calls Tryz.prog 46 #[Value.pointer (some ⟨B, 0, none⟩)] w' fun e w'' => ∃ v, e = .returned v ∧ P v w'') → Calls Tryz.prog 32 #[Value.pointer (some ⟨B, 0, none⟩)] w fun e w'' => ∃ v, e = .returned v ∧ P v w'')
    (ht : ∀ w', RunP w' B p A cp nv r → Calls Tryz.prog 46 #[Value.pointer (some ⟨B, 0, none⟩)] w' fun e w'' => e = .returned .nilFunc ∧ Only Nil w' w'') : Calls Tryz.prog 32 #[Value.pointer (some ⟨B, 0, none⟩)] w fun e w' => e = .returned .nilFunc ∧ Only Nil w w' := by
  refine (hv (fun v w'' => v = .nilFunc ∧ Only Nil w w'') (fun w' h' ho => (ht w' h').mono ?_)).mono ?_
  · rintro e w2 ⟨rfl, hO⟩
    exact ⟨_, rfl, rfl, ho.trans hO⟩
  · rintro e w2 ⟨v, rfl, rfl, hO⟩
    exact ⟨rfl, hO⟩
theorem wGive_no {r : LS} {a : Int} {ok : Bool} (h0 : r.line ≠ a) (h1 : r.line ≠ a + 1) (h2 : r.line ≠ a + 2) (h3 : r.line ≠ a + 3) : r.wGive a ok = r :=
  wGive_of (by unfold LS.mxGive; rw [if_neg h0, if_neg h1, if_neg h2, if_neg h3]) (d := false)
theorem pq_no1 {r : LS} (h1 : r.op = 1) (n0 : ¬ r.line = 0) (n1 : ¬ r.line = 1) : r.pq = r := by
  have hc : pqCase r.op r.line = 0 := by
    rw [h1]
    unfold pqCase
    repeat (first | rw [if_neg (by omega)] | rw [if_pos (by omega)])
  unfold LS.pq
  rw [hc]
  exact rfl
theorem pq_no2 {r : LS} (h1 : r.op = 2) (n0 : ¬ r.line = 0) : r.pq = r := by
  have hc : pqCase r.op r.line = 0 := by
    rw [h1]
    unfold pqCase
    repeat (first | rw [if_neg (by omega)] | rw [if_pos (by omega)])
  unfold LS.pq
  rw [hc]
  exact rfl
theorem pq_no3 {r : LS} (h1 : r.op = 3) (n0 : ¬ r.line = 0) (n1 : ¬ r.line = 1) (n2 : ¬ r.line = 2) (n3 : ¬ r.line = 3) (n4 : ¬ r.line = 4) (n5 : ¬ r.line = 5) (n6 : ¬ r.line = 6) (n7 : ¬ r.line = 7) : r.pq = r := by
  have hc : pqCase r.op r.line = 0 := by
    rw [h1]
    unfold pqCase
    repeat (first | rw [if_neg (by omega)] | rw [if_pos (by omega)])
  unfold LS.pq
  rw [hc]
  exact rfl
theorem pq_no4 {r : LS} (h1 : r.op = 4) (n0 : ¬ r.line = 0) (n1 : ¬ r.line = 1) (n2 : ¬ r.line = 2) (n3 : ¬ r.line = 3) (n4 : ¬ r.line = 4) (n5 : ¬ r.line = 5) (n6 : ¬ r.line = 6) : r.pq = r := by
  have hc : pqCase r.op r.line = 14 := by
    rw [h1]
    unfold pqCase
    repeat (first | rw [if_neg (by omega)] | rw [if_pos (by omega)])
  unfold LS.pq
  rw [hc]
  exact wGive_no n3 n4 n5 n6
theorem pq_no5 {r : LS} (h1 : r.op = 5) (n0 : ¬ r.line = 0) (n1 : ¬ r.line = 1) : r.pq = r := by
  have hc : pqCase r.op r.line = 0 := by
    rw [h1]
    unfold pqCase
    repeat (first | rw [if_neg (by omega)] | rw [if_pos (by omega)])
  unfold LS.pq
  rw [hc]
  exact rfl
theorem pq_no6 {r : LS} (h1 : r.op = 6) (n0 : ¬ r.line = 0) (n1 : ¬ r.line = 1) (n2 : ¬ r.line = 2) (n3 : ¬ r.line = 3) (n4 : ¬ r.line = 4) (n5 : ¬ r.line = 5) (n6 : ¬ r.line = 6) (n8 : ¬ r.line = 8) (n9 : ¬ r.line = 9) (n10 : ¬ r.line = 10) (n11 : ¬ r.line = 11) : r.pq = r := by
  have hc : pqCase r.op r.line = 24 := by
    rw [h1]
    unfold pqCase
    repeat (first | rw [if_neg (by omega)] | rw [if_pos (by omega)])
  unfold LS.pq
  rw [hc]
  exact wGive_no n8 n9 n10 n11
theorem pq_no7 {r : LS} (h1 : r.op = 7) (n0 : ¬ r.line = 0) (n1 : ¬ r.line = 1) (n2 : ¬ r.line = 2) (n3 : ¬ r.line = 3) (n4 : ¬ r.line = 4) (n5 : ¬ r.line = 5) (n6 : ¬ r.line = 6) (n7 : ¬ r.line = 7) (n8 : ¬ r.line = 8) (n9 : ¬ r.line = 9) (n10 : ¬ r.line = 10) (n11 : ¬ r.line = 11) : r.pq = r := by
  have hc : pqCase r.op r.line = 24 := by
    rw [h1]
    unfold pqCase
    repeat (first | rw [if_neg (by omega)] | rw [if_pos (by omega)])
  unfold LS.pq
  rw [hc]
  exact wGive_no n8 n9 n10 n11
theorem pq_no8 {r : LS} (h1 : r.op = 8) (n0 : ¬ r.line = 0) (n1 : ¬ r.line = 1) (n2 : ¬ r.line = 2) (n3 : ¬ r.line = 3) (n4 : ¬ r.line = 4) (n5 : ¬ r.line = 5) (n6 : ¬ r.line = 6) : r.pq = r := by
  have hc : pqCase r.op r.line = 14 := by
    rw [h1]
    unfold pqCase
    repeat (first | rw [if_neg (by omega)] | rw [if_pos (by omega)])
  unfold LS.pq
  rw [hc]
  exact wGive_no n3 n4 n5 n6
theorem pq_no9 {r : LS} (n1 : ¬ r.op = 1) (n2 : ¬ r.op = 2) (n3 : ¬ r.op = 3) (n4 : ¬ r.op = 4) (n5 : ¬ r.op = 5) (n6 : ¬ r.op = 6) (n7 : ¬ r.op = 7) (n8 : ¬ r.op = 8) : r.pq = r := by
  have hc : pqCase r.op r.line = 0 := by
    unfold pqCase
    repeat (first | rw [if_neg (by omega)] | rw [if_pos (by omega)])
  unfold LS.pq
  rw [hc]
  rfl
theorem pq_lines (B : Nat) (p A : Option Addr) (cp : Nat) (nv : Value) (r : LS) (w : World) (h : RunP w B p A cp nv r) (hl : r.ns.length ≤ 900) (hx : Words r.xs) (ha : 0 ≤ r.a ∧ r.a < 4294967296) (hb : 0 ≤ r.b ∧ r.b < 4294967296) : Calls Tryz.prog 22 #[Value.pointer (some ⟨B, 0, none⟩)] w (Done B p A cp w (.tuple #[]) r.pq) := by
  have none : r.pq = r → Calls Tryz.prog 32 #[Value.pointer (some ⟨B, 0, none⟩)] w (fun e w' => e = .returned .nilFunc ∧ Only Nil w w') → Calls Tryz.prog 22 #[Value.pointer (some ⟨B, 0, none⟩)] w (Done B p A cp w (.tuple #[]) r.pq) := fun e hs => by
    rw [e]
    exact runs_no B p A cp nv r w h hs
  by_cases o1 : r.op = 1
  · by_cases g0 : r.line = 0
    · exact runs_FREAD1 B p A cp _ w (stepOf_1_0 B p A cp nv r w h hl hx ha hb o1 g0)
    by_cases g1 : r.line = 1
    · exact runs_FREAD1 B p A cp _ w (stepOf_1_1 B p A cp nv r w h hl hx ha hb o1 g1)
    exact none (pq_no1 o1 (by omega) (by omega)) (no_via (fun P ht => via_1 B p A cp nv r w h hl hx ha hb o1 (by omega) (by omega) P ht) (fun w' h' => tryOf_no B p A cp nv r w' h' hl hx ha hb (by omega) (by omega)))
  by_cases o2 : r.op = 2
  · by_cases g0 : r.line = 0
    · exact runs_FREAD1 B p A cp _ w (stepOf_2_0 B p A cp nv r w h hl hx ha hb o2 g0)
    exact none (pq_no2 o2 (by omega)) (no_via (fun P ht => via_2 B p A cp nv r w h hl hx ha hb o2 (by omega) P ht) (fun w' h' => tryOf_no B p A cp nv r w' h' hl hx ha hb (by omega) (by omega)))
  by_cases o3 : r.op = 3
  · by_cases g0 : r.line = 0 ∨ r.line = 1 ∨ r.line = 2 ∨ r.line = 3 ∨ r.line = 4
    · exact runs_FENT1 B p A cp _ w (stepOf_3_0 B p A cp nv r w h hl hx ha hb o3 g0)
    by_cases g1 : r.line = 5
    · exact runs_FKEEP1 B p A cp _ w (stepOf_3_5 B p A cp nv r w h hl hx ha hb o3 g1)
    by_cases g2 : r.line = 6
    · exact runs_FAPP1 B p A cp _ w (stepOf_3_6 B p A cp nv r w h hl hx ha hb o3 g2)
    by_cases g3 : r.line = 7
    · exact runs_FAW1 B p A cp _ w (stepOf_3_7 B p A cp nv r w h hl hx ha hb o3 g3)
    exact none (pq_no3 o3 (by omega) (by omega) (by omega) (by omega) (by omega) (by omega) (by omega) (by omega)) (no_via (fun P ht => via_3 B p A cp nv r w h hl hx ha hb o3 (by omega) (by omega) (by omega) (by omega) (by omega) (by omega) (by omega) (by omega) P ht) (fun w' h' => tryOf_no B p A cp nv r w' h' hl hx ha hb (by omega) (by omega)))
  by_cases o4 : r.op = 4
  · by_cases g0 : r.line = 0
    · exact runs_FKEEP1 B p A cp _ w (stepOf_4_0 B p A cp nv r w h hl hx ha hb o4 g0)
    by_cases g1 : r.line = 1
    · exact runs_FVAN1 B p A cp _ w (stepOf_4_1 B p A cp nv r w h hl hx ha hb o4 g1)
    by_cases g2 : r.line = 2
    · exact runs_FCNT1 B p A cp _ w (stepOf_4_2 B p A cp nv r w h hl hx ha hb o4 g2)
    by_cases g3 : r.line = 3 ∨ r.line = 4 ∨ r.line = 5 ∨ r.line = 6
    · exact runs_FGV1 B p A cp _ w (stepOf_4_3 B p A cp nv r w h hl hx ha hb o4 g3)
    exact none (pq_no4 o4 (by omega) (by omega) (by omega) (by omega) (by omega) (by omega) (by omega)) (no_via (fun P ht => via_4 B p A cp nv r w h hl hx ha hb o4 (by omega) (by omega) (by omega) (by omega) (by omega) (by omega) (by omega) P ht) (fun w' h' => tryOf_no B p A cp nv r w' h' hl hx ha hb (by omega) (by omega)))
  by_cases o5 : r.op = 5
  · by_cases g0 : r.line = 0
    · exact runs_FREAD1 B p A cp _ w (stepOf_5_0 B p A cp nv r w h hl hx ha hb o5 g0)
    by_cases g1 : r.line = 1
    · exact runs_FREAD1 B p A cp _ w (stepOf_5_1 B p A cp nv r w h hl hx ha hb o5 g1)
    exact none (pq_no5 o5 (by omega) (by omega)) (no_via (fun P ht => via_5 B p A cp nv r w h hl hx ha hb o5 (by omega) (by omega) P ht) (fun w' h' => tryOf_no B p A cp nv r w' h' hl hx ha hb (by omega) (by omega)))
  by_cases o6 : r.op = 6
  · by_cases g0 : r.line = 0 ∨ r.line = 1
    · exact runs_FTRY1 B p A cp _ w (clo_via (fun P ht => via_6 B p A cp nv r w h hl hx ha hb o6 P ht) (fun w' h' => tryOf_6_0 B p A cp nv r w' h' hl hx ha hb o6 g0))
    by_cases g1 : r.line = 2
    · exact runs_FCOM1 B p A cp _ w (clo_via (fun P ht => via_6 B p A cp nv r w h hl hx ha hb o6 P ht) (fun w' h' => tryOf_6_2 B p A cp nv r w' h' hl hx ha hb o6 g1))
    by_cases g2 : r.line = 3
    · exact runs_FWEIGH1 B p A cp _ w (clo_via (fun P ht => via_6 B p A cp nv r w h hl hx ha hb o6 P ht) (fun w' h' => tryOf_6_3 B p A cp nv r w' h' hl hx ha hb o6 g2))
    by_cases g3 : r.line = 4
    · exact runs_FKEEP1 B p A cp _ w (clo_via (fun P ht => via_6 B p A cp nv r w h hl hx ha hb o6 P ht) (fun w' h' => tryOf_6_4 B p A cp nv r w' h' hl hx ha hb o6 g3))
    by_cases g4 : r.line = 5
    · exact runs_FAPP1 B p A cp _ w (clo_via (fun P ht => via_6 B p A cp nv r w h hl hx ha hb o6 P ht) (fun w' h' => tryOf_6_5 B p A cp nv r w' h' hl hx ha hb o6 g4))
    by_cases g5 : r.line = 6
    · exact runs_FAW1 B p A cp _ w (clo_via (fun P ht => via_6 B p A cp nv r w h hl hx ha hb o6 P ht) (fun w' h' => tryOf_6_6 B p A cp nv r w' h' hl hx ha hb o6 g5))
    by_cases g6 : r.line = 8 ∨ r.line = 9 ∨ r.line = 10 ∨ r.line = 11
    · exact runs_FGV1 B p A cp _ w (clo_via (fun P ht => via_6 B p A cp nv r w h hl hx ha hb o6 P ht) (fun w' h' => tryOf_6_8 B p A cp nv r w' h' hl hx ha hb o6 g6))
    exact none (pq_no6 o6 (by omega) (by omega) (by omega) (by omega) (by omega) (by omega) (by omega) (by omega) (by omega) (by omega) (by omega)) (no_via (fun P ht => via_6 B p A cp nv r w h hl hx ha hb o6 P ht) (fun w' h' => tryOf_no6 B p A cp nv r w' h' hl hx ha hb o6 (by omega) (by omega) (by omega) (by omega) (by omega) (by omega) (by omega) (by omega) (by omega) (by omega) (by omega)))
  by_cases o7 : r.op = 7
  · by_cases g0 : r.line = 0 ∨ r.line = 1
    · exact runs_FTRY1 B p A cp _ w (clo_via (fun P ht => via_7 B p A cp nv r w h hl hx ha hb o7 P ht) (fun w' h' => tryOf_7_0 B p A cp nv r w' h' hl hx ha hb o7 g0))
    by_cases g1 : r.line = 2
    · exact runs_FCOM1 B p A cp _ w (clo_via (fun P ht => via_7 B p A cp nv r w h hl hx ha hb o7 P ht) (fun w' h' => tryOf_7_2 B p A cp nv r w' h' hl hx ha hb o7 g1))
    by_cases g2 : r.line = 3
    · exact runs_FWEIGH1 B p A cp _ w (clo_via (fun P ht => via_7 B p A cp nv r w h hl hx ha hb o7 P ht) (fun w' h' => tryOf_7_3 B p A cp nv r w' h' hl hx ha hb o7 g2))
    by_cases g3 : r.line = 4
    · exact runs_FKEEP1 B p A cp _ w (clo_via (fun P ht => via_7 B p A cp nv r w h hl hx ha hb o7 P ht) (fun w' h' => tryOf_7_4 B p A cp nv r w' h' hl hx ha hb o7 g3))
    by_cases g4 : r.line = 5
    · exact runs_FAPP1 B p A cp _ w (clo_via (fun P ht => via_7 B p A cp nv r w h hl hx ha hb o7 P ht) (fun w' h' => tryOf_7_5 B p A cp nv r w' h' hl hx ha hb o7 g4))
    by_cases g5 : r.line = 6
    · exact runs_FOT1 B p A cp _ w (clo_via (fun P ht => via_7 B p A cp nv r w h hl hx ha hb o7 P ht) (fun w' h' => tryOf_7_6 B p A cp nv r w' h' hl hx ha hb o7 g5))
    by_cases g6 : r.line = 7
    · exact runs_FSTOP1 B p A cp _ w (clo_via (fun P ht => via_7 B p A cp nv r w h hl hx ha hb o7 P ht) (fun w' h' => tryOf_7_7 B p A cp nv r w' h' hl hx ha hb o7 g6))
    by_cases g7 : r.line = 8 ∨ r.line = 9 ∨ r.line = 10 ∨ r.line = 11
    · exact runs_FGV1 B p A cp _ w (clo_via (fun P ht => via_7 B p A cp nv r w h hl hx ha hb o7 P ht) (fun w' h' => tryOf_7_8 B p A cp nv r w' h' hl hx ha hb o7 g7))
    exact none (pq_no7 o7 (by omega) (by omega) (by omega) (by omega) (by omega) (by omega) (by omega) (by omega) (by omega) (by omega) (by omega) (by omega)) (no_via (fun P ht => via_7 B p A cp nv r w h hl hx ha hb o7 P ht) (fun w' h' => tryOf_no7 B p A cp nv r w' h' hl hx ha hb o7 (by omega) (by omega) (by omega) (by omega) (by omega) (by omega) (by omega) (by omega) (by omega) (by omega) (by omega) (by omega)))
  by_cases o8 : r.op = 8
  · by_cases g0 : r.line = 0
    · exact runs_FKEEP1 B p A cp _ w (stepOf_8_0 B p A cp nv r w h hl hx ha hb o8 g0)
    by_cases g1 : r.line = 1
    · exact runs_FVAN1 B p A cp _ w (stepOf_8_1 B p A cp nv r w h hl hx ha hb o8 g1)
    by_cases g2 : r.line = 2
    · exact runs_FCNT1 B p A cp _ w (stepOf_8_2 B p A cp nv r w h hl hx ha hb o8 g2)
    by_cases g3 : r.line = 3 ∨ r.line = 4 ∨ r.line = 5 ∨ r.line = 6
    · exact runs_FGV1 B p A cp _ w (stepOf_8_3 B p A cp nv r w h hl hx ha hb o8 g3)
    exact none (pq_no8 o8 (by omega) (by omega) (by omega) (by omega) (by omega) (by omega) (by omega)) (no_via (fun P ht => via_8 B p A cp nv r w h hl hx ha hb o8 (by omega) (by omega) (by omega) (by omega) (by omega) (by omega) (by omega) P ht) (fun w' h' => tryOf_no B p A cp nv r w' h' hl hx ha hb (by omega) (by omega)))
  exact none (pq_no9 o1 o2 o3 o4 o5 o6 o7 o8) (no_via (fun P ht => via_no B p A cp nv r w h hl hx ha hb o1 o2 o3 o4 o5 o8 P ht) (fun w' h' => tryOf_no B p A cp nv r w' h' hl hx ha hb o6 o7))
theorem pq_lined (B : Nat) (p A : Option Addr) (cp : Nat) (r : LS) (hl : r.ns.length ≤ 900) (hx : Words r.xs) (ha : 0 ≤ r.a ∧ r.a < 4294967296) (hb : 0 ≤ r.b ∧ r.b < 4294967296) : Lined B p A cp (.func (.func 22) #[] #[]) r r.pq (TurnB B A) (fun _ => True) (fun _ => True) := by
  intro w nv _ h
  have HT := Lib.hid (pq_lines B p A cp nv r w h hl hx ha hb)
  have hn := neq_fnL
  clear h hl hx ha hb
  go_enter_defers Tryz.func31, Tryz.ntmps31
  go_wp2_with fail
  refine HT.out.mono ?_
  rintro e w1 ⟨rfl, hO, nv1, hP⟩
  have HO := Lib.hid hO
  have HP := Lib.hid hP
  clear hO hP HT
  go_wp2
  refine leaves_cons (f := 37) (args := #[]) (by simp) (by simp [go_sem]) ?_
  refine (rec_run _).mono ?_
  rintro e u' w'' ⟨rfl, rfl, rfl⟩
  exact ⟨_, by simp [results, Tryz.results31, go_sem], rfl, HO.out, trivial, nv1, HP.out⟩
theorem pq_step (B : Nat) (p A : Option Addr) (cp : Nat) (nv : Value) (r : LS) (w : World) (h : RunQ w B p A cp nv r) (hx : Words r.xs) (ha : 0 ≤ r.a ∧ r.a < 4294967296) (hb : 0 ≤ r.b ∧ r.b < 4294967296) :
    Calls Tryz.prog 21 #[Value.pointer (some ⟨B, 0, none⟩), .func (.func 22) #[] #[]] w (Stepd B p A cp (r.next LS.pq) (TurnB B A) (fun _ => True) w) := by
  unfold LS.next
  cases hon : r.k.on
  · rw [if_neg Bool.false_ne_true]
    exact step_lines B p A cp nv _ r _ _ _ _ w h hon (pq_lined B p A cp r.fresh (Nat.zero_le _) hx ha hb) (.inl rfl) (fun _ _ => trivial)
  · rw [if_pos rfl]
    exact step_wake B p A cp nv _ r w h hon
end Go.Proofs.YtocdbeonogfopaaGreat
