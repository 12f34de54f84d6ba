import Derived.Test.YtdmpaoajcnjbaaaGreatG24
import Derived.Test.YtdmpaoajcnjbaaaGreatG26
import Derived.Test.YtdmpaoajcnjbaaaGreatG15
import Derived.Test.YtdmpaoajcnjbaaaGreatG27
import Derived.Test.YtdmpaoajcnjbaaaGreatG28
import Derived.Test.YtdmpaoajcnjbaaaGreatG29
import Derived.Test.YtdmpaoajcnjbaaaGreatG30
import Derived.Test.YtdmpaoajcnjbaaaGreatG31
import Derived.Test.YtdmpaoajcnjbaaaGreatG32
set_option linter.unusedVariables false
set_option linter.unusedSimpArgs false
namespace Go.Proofs.YtdmpaoajcnjbaaaGreat
open Go.RowKit
set_option maxRecDepth 100000 in
set_option maxHeartbeats 4000000 in
theorem ref_6_2 (B base : Nat) (A : Option Addr) (l cp : Nat) (nv : Value) (r : LS) (w : World) (h : RunR w B base A l cp nv r) (hl : r.ns.length ≤ 900) (hx : Words r.xs) (ha : 0 ≤ r.a ∧ r.a < 4294967296) (h1 : r.op = 6) (h2 : r.line = 2) :
    Calls Tryz.prog 10 #[Value.pointer (some ⟨B, 0, none⟩)] w (DoneR B base A l cp w (.tuple #[]) r.tf) := by
  rw [show r.tf = (if r.claimed then ((r.claim.note 2 2).note 4 0).fin true else r.claim.go 0) by unfold LS.tf; rw [h1, h2]; rfl]
  have H1 := Lib.hid h1
  have H2 := Lib.hid h2
  clear h1 h2
  have HLN := Lib.hid (show r.claim.ns.length ≤ 900 from hl)
  cases hcl : r.claimed
  · have HCL := Lib.hid (show (there r.xs 0 && (wordAt r.xs 0 == r.a)) = false from hcl)
    clear hcl
    rw [if_neg Bool.false_ne_true]
    have HX := Lib.hid hx
    have HL := Lib.hid hl
    have HA := Lib.hid ha
    have HH := Lib.hid h
    clear h hl hx ha
    have c4 : w.cell? ⟨B, 4, none⟩ = some (.int .i64 (6)) := by rw [← H1.out]; exact HH.out.row.cell_ (i := 4) rfl
    have c5 : w.cell? ⟨B, 5, none⟩ = some (.int .i64 (2)) := by rw [← H2.out]; exact HH.out.row.cell_ (i := 5) rfl
    have c6 : w.cell? ⟨B, 6, none⟩ = some (.int .u32 r.a) := HH.out.row.cell_ (i := 6) rfl
    have e0 := (Only.refl Nil w).alloc (.cells #[.int .i64 0, .int .u32 4294967295, .int .u32 r.a] 69)
    have HP := Lib.hid (HH.out.keep e0)
    have HO := Lib.hid (e0.mono (T := TurnB B A) (fun _ _ h => h.elim))
    have HU := Lib.hid (Row.new w 69 #[.int .i64 0, .int .u32 4294967295, .int .u32 r.a])
    clear e0 HH
    go_enter Tryz.func10, Tryz.ntmps10
    go_upto_region 3 with (fail)
    clear c4 c5 c6
    generalize w.alloc (.cells #[.int .i64 0, .int .u32 4294967295, .int .u32 r.a] 69) = w1 at *
    generalize w.heap.size = gu at *
    have hw1 : IntKind.i64.wrap (60) = 60 := rfl
    have hw2 : IntKind.i64.wrap (62) = 62 := rfl
    refine wp_region_phase (n := 10) 9 (fun w => w.cell? ⟨B, 4, none⟩ = some (.int .i64 (6)) ∧ w.cell? ⟨B, 5, none⟩ = some (.int .i64 (2))) rfl (by kernel_rfl) ⟨by rw [← H1.out]; exact HP.out.row.cell_ (i := 4) rfl, by rw [← H2.out]; exact HP.out.row.cell_ (i := 5) rfl⟩ (fun hHeld => ?_)
    have HP0 := Lib.hid (HP.out.keep (Only.refl Nil w1).drew)
    have HO0 := Lib.hid HO.out.drew
    have HU0 := Lib.hid HU.out.drew
    clear HP HO HU
    generalize w1.drew = w2 at *
    refine mpa 0 rfl (.pointer (some ⟨B, 4, none⟩)) (fun w => ?_) ?_
    · go_simp
    (try simp only [Act.put, k1, k2, k3])
    refine mpa 1 rfl (.pointer (some ⟨B, 4, none⟩)) (fun w => ?_) ?_
    · go_simp
    (try simp only [Act.put, k1, k2, k3])
    refine mpa 2 rfl (.pointer (some ⟨B, 4, none⟩)) (fun w => ?_) ?_
    · go_simp
    (try simp only [Act.put, k1, k2, k3])
    refine mpt 3 rfl (.int .i64 (6)) (fun w hSw => ?_) ?_
    · (try dsimp only at hSw)
      go_split_ands
      go_simp
    (try simp only [Act.put, k1, k2, k3])
    refine mpa 4 rfl (.int .i64 (60)) (fun w => ?_) ?_
    · go_simp
    (try simp only [Act.put, k1, k2, k3])
    refine mpa 5 rfl (.pointer (some ⟨B, 4, none⟩)) (fun w => ?_) ?_
    · go_simp
    (try simp only [Act.put, k1, k2, k3])
    refine mpa 6 rfl (.pointer (some ⟨B, 4, none⟩)) (fun w => ?_) ?_
    · go_simp
    (try simp only [Act.put, k1, k2, k3])
    refine mpa 7 rfl (.pointer (some ⟨B, 5, none⟩)) (fun w => ?_) ?_
    · go_simp
    (try simp only [Act.put, k1, k2, k3])
    refine mpt 8 rfl (.int .i64 (2)) (fun w hSw => ?_) ?_
    · (try dsimp only at hSw)
      go_split_ands
      go_simp
    (try simp only [Act.put, k1, k2, k3])
    refine mpc 9 rfl (by kernel_rfl) (by rfl) (fun K hK => ?_)
    go_simp
    refine hK.out _ _ (.inl (by kernel_rfl)) ?_
    clear hK K hHeld hw1 hw2
    (try simp only [Act.put, k1, k2, k3])
    refine wpAnyP_done (by kernel_rfl) ?_ _
    go_upto_region 69 with (fail)
    have hwa : IntKind.u32.wrap (r.a + 1) = (r.a + 1) % 4294967296 := rfl
    refine wp_region_phase (n := 12) 10 (fun w => w.cell? ⟨B, 6, none⟩ = some (.int .u32 r.a)) rfl (by kernel_rfl) (HP0.out.row.cell_ (i := 6) rfl) (fun hHeld => ?_)
    have HP0b := Lib.hid (HP0.out.keep (Only.refl Nil w2).drew)
    have HO0b := Lib.hid HO0.out.drew
    clear HP0 HO0 HU0
    generalize w2.drew = w0 at *
    refine mpa 0 rfl (Value.pointer (some ⟨B, 0, none⟩)) (fun w => ?_) ?_
    · go_simp
    (try simp only [Act.put, k1, k2, k3])
    refine mpa 1 rfl (.pointer (some ⟨B, 4, none⟩)) (fun w => ?_) ?_
    · go_simp
    (try simp only [Act.put, k1, k2, k3])
    refine mpa 2 rfl (.pointer (some ⟨B, 4, none⟩)) (fun w => ?_) ?_
    · go_simp
    (try simp only [Act.put, k1, k2, k3])
    refine mpa 3 rfl (.pointer (some ⟨B, 6, none⟩)) (fun w => ?_) ?_
    · go_simp
    (try simp only [Act.put, k1, k2, k3])
    refine mpt 4 rfl (.int .u32 r.a) (fun w hSw => ?_) ?_
    · (try dsimp only at hSw)
      go_split_ands
      go_simp
    (try simp only [Act.put, k1, k2, k3])
    refine mpa 5 rfl (.pointer (some ⟨B, 4, none⟩)) (fun w => ?_) ?_
    · go_simp
    (try simp only [Act.put, k1, k2, k3])
    refine mpa 6 rfl (.pointer (some ⟨B, 4, none⟩)) (fun w => ?_) ?_
    · go_simp
    (try simp only [Act.put, k1, k2, k3])
    refine mpa 7 rfl (.pointer (some ⟨B, 6, none⟩)) (fun w => ?_) ?_
    · go_simp
    (try simp only [Act.put, k1, k2, k3])
    refine mpt 8 rfl (.int .u32 r.a) (fun w hSw => ?_) ?_
    · (try dsimp only at hSw)
      go_split_ands
      go_simp
    (try simp only [Act.put, k1, k2, k3])
    refine mpa 9 rfl (.int .u32 ((r.a + 1) % 4294967296)) (fun w => ?_) ?_
    · go_simp
    (try simp only [Act.put, k1, k2, k3])
    refine mpc 10 rfl (by kernel_rfl) (by rfl) (fun K hK => ?_)
    go_simp
    refine (rcas_run B base A l cp nv r 0 r.a ((r.a + 1) % 4294967296) _ HP0b.out).mono ?_
    rw [HCL.out]
    rintro e w3 ⟨rfl, hO, nv1, hP⟩
    have HO1 := Lib.hid (HO0b.out.trans hO)
    have HP1 := Lib.hid (show RunR w3 B base A l cp nv1 r.claim from hP)
    refine hK.out _ _ (.inl (by kernel_rfl)) ?_
    clear hK K hHeld hO hP HP0b HO0b hwa
    (try simp only [Act.put, k1, k2, k3])
    refine mpa 11 rfl (.bool true) (fun w => ?_) ?_
    · go_simp
    (try simp only [Act.put, k1, k2, k3])
    refine wpAnyP_done (by kernel_rfl) ?_ _
    have c5 : w3.cell? ⟨B, 5, none⟩ = some (.int .i64 (2)) := by rw [← H2.out]; exact HP1.out.row.cell_ (i := 5) rfl
    have f5 : w3.frozen? ⟨B, 5, none⟩ = false := HP1.out.row.frozen 5
    go_wp2
    clear c5 f5
    have HP5 := Lib.hid (HP1.out.setLine 0)
    have HO5 := Lib.hid (HO1.out.setCell (p := ⟨B, 5, none⟩) (.inr (.inl rfl)) (.int .i64 0))
    go_returns
    exact ⟨rfl, HO5.out, nv1, HP5.out⟩
  · have HCL := Lib.hid (show (there r.xs 0 && (wordAt r.xs 0 == r.a)) = true from hcl)
    clear hcl
    rw [if_pos rfl]
    have HX := Lib.hid hx
    have HL := Lib.hid hl
    have HA := Lib.hid ha
    have HH := Lib.hid h
    clear h hl hx ha
    have c4 : w.cell? ⟨B, 4, none⟩ = some (.int .i64 (6)) := by rw [← H1.out]; exact HH.out.row.cell_ (i := 4) rfl
    have c5 : w.cell? ⟨B, 5, none⟩ = some (.int .i64 (2)) := by rw [← H2.out]; exact HH.out.row.cell_ (i := 5) rfl
    have c6 : w.cell? ⟨B, 6, none⟩ = some (.int .u32 r.a) := HH.out.row.cell_ (i := 6) rfl
    have e0 := (Only.refl Nil w).alloc (.cells #[.int .i64 0, .int .u32 4294967295, .int .u32 r.a] 69)
    have HP := Lib.hid (HH.out.keep e0)
    have HO := Lib.hid (e0.mono (T := TurnB B A) (fun _ _ h => h.elim))
    have HU := Lib.hid (Row.new w 69 #[.int .i64 0, .int .u32 4294967295, .int .u32 r.a])
    clear e0 HH
    go_enter Tryz.func10, Tryz.ntmps10
    go_upto_region 3 with (fail)
    clear c4 c5 c6
    generalize w.alloc (.cells #[.int .i64 0, .int .u32 4294967295, .int .u32 r.a] 69) = w1 at *
    generalize w.heap.size = gu at *
    have hw1 : IntKind.i64.wrap (60) = 60 := rfl
    have hw2 : IntKind.i64.wrap (62) = 62 := rfl
    refine wp_region_phase (n := 10) 9 (fun w => w.cell? ⟨B, 4, none⟩ = some (.int .i64 (6)) ∧ w.cell? ⟨B, 5, none⟩ = some (.int .i64 (2))) rfl (by kernel_rfl) ⟨by rw [← H1.out]; exact HP.out.row.cell_ (i := 4) rfl, by rw [← H2.out]; exact HP.out.row.cell_ (i := 5) rfl⟩ (fun hHeld => ?_)
    have HP0 := Lib.hid (HP.out.keep (Only.refl Nil w1).drew)
    have HO0 := Lib.hid HO.out.drew
    have HU0 := Lib.hid HU.out.drew
    clear HP HO HU
    generalize w1.drew = w2 at *
    refine mpa 0 rfl (.pointer (some ⟨B, 4, none⟩)) (fun w => ?_) ?_
    · go_simp
    (try simp only [Act.put, k1, k2, k3])
    refine mpa 1 rfl (.pointer (some ⟨B, 4, none⟩)) (fun w => ?_) ?_
    · go_simp
    (try simp only [Act.put, k1, k2, k3])
    refine mpa 2 rfl (.pointer (some ⟨B, 4, none⟩)) (fun w => ?_) ?_
    · go_simp
    (try simp only [Act.put, k1, k2, k3])
    refine mpt 3 rfl (.int .i64 (6)) (fun w hSw => ?_) ?_
    · (try dsimp only at hSw)
      go_split_ands
      go_simp
    (try simp only [Act.put, k1, k2, k3])
    refine mpa 4 rfl (.int .i64 (60)) (fun w => ?_) ?_
    · go_simp
    (try simp only [Act.put, k1, k2, k3])
    refine mpa 5 rfl (.pointer (some ⟨B, 4, none⟩)) (fun w => ?_) ?_
    · go_simp
    (try simp only [Act.put, k1, k2, k3])
    refine mpa 6 rfl (.pointer (some ⟨B, 4, none⟩)) (fun w => ?_) ?_
    · go_simp
    (try simp only [Act.put, k1, k2, k3])
    refine mpa 7 rfl (.pointer (some ⟨B, 5, none⟩)) (fun w => ?_) ?_
    · go_simp
    (try simp only [Act.put, k1, k2, k3])
    refine mpt 8 rfl (.int .i64 (2)) (fun w hSw => ?_) ?_
    · (try dsimp only at hSw)
      go_split_ands
      go_simp
    (try simp only [Act.put, k1, k2, k3])
    refine mpc 9 rfl (by kernel_rfl) (by rfl) (fun K hK => ?_)
    go_simp
    refine hK.out _ _ (.inl (by kernel_rfl)) ?_
    clear hK K hHeld hw1 hw2
    (try simp only [Act.put, k1, k2, k3])
    refine wpAnyP_done (by kernel_rfl) ?_ _
    go_upto_region 69 with (fail)
    have hwa : IntKind.u32.wrap (r.a + 1) = (r.a + 1) % 4294967296 := rfl
    refine wp_region_phase (n := 12) 10 (fun w => w.cell? ⟨B, 6, none⟩ = some (.int .u32 r.a)) rfl (by kernel_rfl) (HP0.out.row.cell_ (i := 6) rfl) (fun hHeld => ?_)
    have HP0b := Lib.hid (HP0.out.keep (Only.refl Nil w2).drew)
    have HO0b := Lib.hid HO0.out.drew
    clear HP0 HO0 HU0
    generalize w2.drew = w0 at *
    refine mpa 0 rfl (Value.pointer (some ⟨B, 0, none⟩)) (fun w => ?_) ?_
    · go_simp
    (try simp only [Act.put, k1, k2, k3])
    refine mpa 1 rfl (.pointer (some ⟨B, 4, none⟩)) (fun w => ?_) ?_
    · go_simp
    (try simp only [Act.put, k1, k2, k3])
    refine mpa 2 rfl (.pointer (some ⟨B, 4, none⟩)) (fun w => ?_) ?_
    · go_simp
    (try simp only [Act.put, k1, k2, k3])
    refine mpa 3 rfl (.pointer (some ⟨B, 6, none⟩)) (fun w => ?_) ?_
    · go_simp
    (try simp only [Act.put, k1, k2, k3])
    refine mpt 4 rfl (.int .u32 r.a) (fun w hSw => ?_) ?_
    · (try dsimp only at hSw)
      go_split_ands
      go_simp
    (try simp only [Act.put, k1, k2, k3])
    refine mpa 5 rfl (.pointer (some ⟨B, 4, none⟩)) (fun w => ?_) ?_
    · go_simp
    (try simp only [Act.put, k1, k2, k3])
    refine mpa 6 rfl (.pointer (some ⟨B, 4, none⟩)) (fun w => ?_) ?_
    · go_simp
    (try simp only [Act.put, k1, k2, k3])
    refine mpa 7 rfl (.pointer (some ⟨B, 6, none⟩)) (fun w => ?_) ?_
    · go_simp
    (try simp only [Act.put, k1, k2, k3])
    refine mpt 8 rfl (.int .u32 r.a) (fun w hSw => ?_) ?_
    · (try dsimp only at hSw)
      go_split_ands
      go_simp
    (try simp only [Act.put, k1, k2, k3])
    refine mpa 9 rfl (.int .u32 ((r.a + 1) % 4294967296)) (fun w => ?_) ?_
    · go_simp
    (try simp only [Act.put, k1, k2, k3])
    refine mpc 10 rfl (by kernel_rfl) (by rfl) (fun K hK => ?_)
    go_simp
    refine (rcas_run B base A l cp nv r 0 r.a ((r.a + 1) % 4294967296) _ HP0b.out).mono ?_
    rw [HCL.out]
    rintro e w3 ⟨rfl, hO, nv1, hP⟩
    have HO1 := Lib.hid (HO0b.out.trans hO)
    have HP1 := Lib.hid (show RunR w3 B base A l cp nv1 r.claim from hP)
    refine hK.out _ _ (.inl (by kernel_rfl)) ?_
    clear hK K hHeld hO hP HP0b HO0b hwa
    (try simp only [Act.put, k1, k2, k3])
    refine mpa 11 rfl (.bool false) (fun w => ?_) ?_
    · go_simp
    (try simp only [Act.put, k1, k2, k3])
    refine wpAnyP_done (by kernel_rfl) ?_ _
    have c4 : w3.cell? ⟨B, 4, none⟩ = some (.int .i64 (6)) := by rw [← H1.out]; exact HP1.out.row.cell_ (i := 4) rfl
    go_wp2_with fail
    clear c4
    refine (rnote_run B base A l cp nv1 _ 2 2 _ HP1.out (Nat.le_trans HLN.out (by decide))).mono ?_
    rintro e w4 ⟨rfl, hO, nv2, hP⟩
    have HO2 := Lib.hid (HO1.out.trans hO)
    have HP2 := Lib.hid hP
    clear hO hP HP1 HO1
    go_wp2_with fail
    refine (rnote_run B base A l cp nv2 _ 4 0 _ HP2.out (by have := HLN.out; simp only [LS.note, List.length_append, List.length_cons, List.length_nil]; omega)).mono ?_
    rintro e w5 ⟨rfl, hO, nv3, hP⟩
    have HO3 := Lib.hid (HO2.out.trans hO)
    have HP3 := Lib.hid hP
    clear hO hP HP2 HO2
    go_wp2_with fail
    refine (rend_run B base A l cp nv3 _ _ true HP3.out).mono ?_
    rintro e w7 ⟨rfl, hO, nv4, hP⟩
    have HO4 := Lib.hid (HO3.out.trans hO)
    have HP4 := Lib.hid hP
    clear hO hP HP3 HO3
    have c4 : w7.cell? ⟨B, 4, none⟩ = some (.int .i64 (6)) := by rw [← H1.out]; exact HP4.out.row.cell_ (i := 4) rfl
    go_wp2
    go_returns
    exact ⟨rfl, HO4.out, nv4, HP4.out⟩
set_option maxRecDepth 100000 in
set_option maxHeartbeats 4000000 in
theorem ref_2_0 (B base : Nat) (A : Option Addr) (l cp : Nat) (nv : Value) (r : LS) (w : World) (h : RunR w B base A l cp nv r) (hl : r.ns.length ≤ 900) (hx : Words r.xs) (ha : 0 ≤ r.a ∧ r.a < 4294967296) (h1 : r.op = 2) (h2 : r.line = 0) :
    Calls Tryz.prog 10 #[Value.pointer (some ⟨B, 0, none⟩)] w (DoneR B base A l cp w (.tuple #[]) r.tf) := by
  rw [show r.tf = r.turn 2 6 by unfold LS.tf; rw [h1, h2]; rfl]
  have H1 := Lib.hid h1
  have H2 := Lib.hid h2
  clear h1 h2
  have HX := Lib.hid hx
  have HL := Lib.hid hl
  have HA := Lib.hid ha
  have HH := Lib.hid h
  clear h hl hx ha
  have c4 : w.cell? ⟨B, 4, none⟩ = some (.int .i64 (2)) := by rw [← H1.out]; exact HH.out.row.cell_ (i := 4) rfl
  have c5 : w.cell? ⟨B, 5, none⟩ = some (.int .i64 (0)) := by rw [← H2.out]; exact HH.out.row.cell_ (i := 5) rfl
  have c6 : w.cell? ⟨B, 6, none⟩ = some (.int .u32 r.a) := HH.out.row.cell_ (i := 6) rfl
  have e0 := (Only.refl Nil w).alloc (.cells #[.int .i64 0, .int .u32 4294967295, .int .u32 r.a] 69)
  have HP := Lib.hid (HH.out.keep e0)
  have HO := Lib.hid (e0.mono (T := TurnB B A) (fun _ _ h => h.elim))
  have HU := Lib.hid (Row.new w 69 #[.int .i64 0, .int .u32 4294967295, .int .u32 r.a])
  clear e0 HH
  go_enter Tryz.func10, Tryz.ntmps10
  go_upto_region 3 with (fail)
  clear c4 c5 c6
  generalize w.alloc (.cells #[.int .i64 0, .int .u32 4294967295, .int .u32 r.a] 69) = w1 at *
  generalize w.heap.size = gu at *
  have hw1 : IntKind.i64.wrap (20) = 20 := rfl
  have hw2 : IntKind.i64.wrap (20) = 20 := rfl
  refine wp_region_phase (n := 10) 9 (fun w => w.cell? ⟨B, 4, none⟩ = some (.int .i64 (2)) ∧ w.cell? ⟨B, 5, none⟩ = some (.int .i64 (0))) rfl (by kernel_rfl) ⟨by rw [← H1.out]; exact HP.out.row.cell_ (i := 4) rfl, by rw [← H2.out]; exact HP.out.row.cell_ (i := 5) rfl⟩ (fun hHeld => ?_)
  have HP0 := Lib.hid (HP.out.keep (Only.refl Nil w1).drew)
  have HO0 := Lib.hid HO.out.drew
  have HU0 := Lib.hid HU.out.drew
  clear HP HO HU
  generalize w1.drew = w2 at *
  refine mpa 0 rfl (.pointer (some ⟨B, 4, none⟩)) (fun w => ?_) ?_
  · go_simp
  (try simp only [Act.put, k1, k2, k3])
  refine mpa 1 rfl (.pointer (some ⟨B, 4, none⟩)) (fun w => ?_) ?_
  · go_simp
  (try simp only [Act.put, k1, k2, k3])
  refine mpa 2 rfl (.pointer (some ⟨B, 4, none⟩)) (fun w => ?_) ?_
  · go_simp
  (try simp only [Act.put, k1, k2, k3])
  refine mpt 3 rfl (.int .i64 (2)) (fun w hSw => ?_) ?_
  · (try dsimp only at hSw)
    go_split_ands
    go_simp
  (try simp only [Act.put, k1, k2, k3])
  refine mpa 4 rfl (.int .i64 (20)) (fun w => ?_) ?_
  · go_simp
  (try simp only [Act.put, k1, k2, k3])
  refine mpa 5 rfl (.pointer (some ⟨B, 4, none⟩)) (fun w => ?_) ?_
  · go_simp
  (try simp only [Act.put, k1, k2, k3])
  refine mpa 6 rfl (.pointer (some ⟨B, 4, none⟩)) (fun w => ?_) ?_
  · go_simp
  (try simp only [Act.put, k1, k2, k3])
  refine mpa 7 rfl (.pointer (some ⟨B, 5, none⟩)) (fun w => ?_) ?_
  · go_simp
  (try simp only [Act.put, k1, k2, k3])
  refine mpt 8 rfl (.int .i64 (0)) (fun w hSw => ?_) ?_
  · (try dsimp only at hSw)
    go_split_ands
    go_simp
  (try simp only [Act.put, k1, k2, k3])
  refine mpc 9 rfl (by kernel_rfl) (by rfl) (fun K hK => ?_)
  go_simp
  refine hK.out _ _ (.inl (by kernel_rfl)) ?_
  clear hK K hHeld hw1 hw2
  (try simp only [Act.put, k1, k2, k3])
  refine wpAnyP_done (by kernel_rfl) ?_ _
  go_wp2_with fail
  refine (radd_run B base A l cp nv r 2 1 _ HP0.out).mono ?_
  rintro e w3 ⟨rfl, hO, nv1, hP⟩
  have HO1 := Lib.hid (HO0.out.trans hO)
  have HP1 := Lib.hid hP
  clear hO hP HP0 HO0
  have c4 : w3.cell? ⟨B, 4, none⟩ = some (.int .i64 (2)) := by rw [← H1.out]; exact HP1.out.row.cell_ (i := 4) rfl
  go_wp2_with fail
  clear c4
  refine (rnote_run B base A l cp nv1 _ 6 0 _ HP1.out (show (r.doA 3 2 1 0).ns.length ≤ 1000 from Nat.le_trans HL.out (by decide))).mono ?_
  rintro e w4 ⟨rfl, hO, nv2, hP⟩
  have HO2 := Lib.hid (HO1.out.trans hO)
  have HP2 := Lib.hid hP
  clear hO hP HP1 HO1
  go_wp2_with fail
  refine (rwake_run B base A l cp nv2 _ 2 _ HP2.out).mono ?_
  rintro e w5 ⟨rfl, hO, nv3, hP⟩
  have HO3 := Lib.hid (HO2.out.trans hO)
  have HP3 := Lib.hid hP
  clear hO hP HP2 HO2
  go_wp2_with fail
  refine (rend_run B base A l cp nv3 _ _ true HP3.out).mono ?_
  rintro e w6 ⟨rfl, hO, nv4, hP⟩
  have HO4 := Lib.hid (HO3.out.trans hO)
  have HP4 := Lib.hid hP
  clear hO hP HP3 HO3
  go_wp2
  go_returns
  exact ⟨rfl, HO4.out, nv4, HP4.out⟩
set_option maxRecDepth 100000 in
set_option maxHeartbeats 4000000 in
theorem ref_3_3 (B base : Nat) (A : Option Addr) (l cp : Nat) (nv : Value) (r : LS) (w : World) (h : RunR w B base A l cp nv r) (hl : r.ns.length ≤ 900) (hx : Words r.xs) (ha : 0 ≤ r.a ∧ r.a < 4294967296) (h1 : r.op = 3) (h2 : r.line = 3) :
    Calls Tryz.prog 10 #[Value.pointer (some ⟨B, 0, none⟩)] w (DoneR B base A l cp w (.tuple #[]) r.tf) := by
  rw [show r.tf = r by unfold LS.tf; rw [h1, h2]; rfl]
  have H1 := Lib.hid h1
  have H2 := Lib.hid h2
  clear h1 h2
  have HX := Lib.hid hx
  have HL := Lib.hid hl
  have HA := Lib.hid ha
  have HH := Lib.hid h
  clear h hl hx ha
  have c4 : w.cell? ⟨B, 4, none⟩ = some (.int .i64 (3)) := by rw [← H1.out]; exact HH.out.row.cell_ (i := 4) rfl
  have c5 : w.cell? ⟨B, 5, none⟩ = some (.int .i64 (3)) := by rw [← H2.out]; exact HH.out.row.cell_ (i := 5) rfl
  have c6 : w.cell? ⟨B, 6, none⟩ = some (.int .u32 r.a) := HH.out.row.cell_ (i := 6) rfl
  have e0 := (Only.refl Nil w).alloc (.cells #[.int .i64 0, .int .u32 4294967295, .int .u32 r.a] 69)
  have HP := Lib.hid (HH.out.keep e0)
  have HO := Lib.hid (e0.mono (T := TurnB B A) (fun _ _ h => h.elim))
  have HU := Lib.hid (Row.new w 69 #[.int .i64 0, .int .u32 4294967295, .int .u32 r.a])
  clear e0 HH
  go_enter Tryz.func10, Tryz.ntmps10
  go_upto_region 3 with (fail)
  clear c4 c5 c6
  generalize w.alloc (.cells #[.int .i64 0, .int .u32 4294967295, .int .u32 r.a] 69) = w1 at *
  generalize w.heap.size = gu at *
  have hw1 : IntKind.i64.wrap (30) = 30 := rfl
  have hw2 : IntKind.i64.wrap (33) = 33 := rfl
  refine wp_region_phase (n := 10) 9 (fun w => w.cell? ⟨B, 4, none⟩ = some (.int .i64 (3)) ∧ w.cell? ⟨B, 5, none⟩ = some (.int .i64 (3))) rfl (by kernel_rfl) ⟨by rw [← H1.out]; exact HP.out.row.cell_ (i := 4) rfl, by rw [← H2.out]; exact HP.out.row.cell_ (i := 5) rfl⟩ (fun hHeld => ?_)
  have HP0 := Lib.hid (HP.out.keep (Only.refl Nil w1).drew)
  have HO0 := Lib.hid HO.out.drew
  have HU0 := Lib.hid HU.out.drew
  clear HP HO HU
  generalize w1.drew = w2 at *
  refine mpa 0 rfl (.pointer (some ⟨B, 4, none⟩)) (fun w => ?_) ?_
  · go_simp
  (try simp only [Act.put, k1, k2, k3])
  refine mpa 1 rfl (.pointer (some ⟨B, 4, none⟩)) (fun w => ?_) ?_
  · go_simp
  (try simp only [Act.put, k1, k2, k3])
  refine mpa 2 rfl (.pointer (some ⟨B, 4, none⟩)) (fun w => ?_) ?_
  · go_simp
  (try simp only [Act.put, k1, k2, k3])
  refine mpt 3 rfl (.int .i64 (3)) (fun w hSw => ?_) ?_
  · (try dsimp only at hSw)
    go_split_ands
    go_simp
  (try simp only [Act.put, k1, k2, k3])
  refine mpa 4 rfl (.int .i64 (30)) (fun w => ?_) ?_
  · go_simp
  (try simp only [Act.put, k1, k2, k3])
  refine mpa 5 rfl (.pointer (some ⟨B, 4, none⟩)) (fun w => ?_) ?_
  · go_simp
  (try simp only [Act.put, k1, k2, k3])
  refine mpa 6 rfl (.pointer (some ⟨B, 4, none⟩)) (fun w => ?_) ?_
  · go_simp
  (try simp only [Act.put, k1, k2, k3])
  refine mpa 7 rfl (.pointer (some ⟨B, 5, none⟩)) (fun w => ?_) ?_
  · go_simp
  (try simp only [Act.put, k1, k2, k3])
  refine mpt 8 rfl (.int .i64 (3)) (fun w hSw => ?_) ?_
  · (try dsimp only at hSw)
    go_split_ands
    go_simp
  (try simp only [Act.put, k1, k2, k3])
  refine mpc 9 rfl (by kernel_rfl) (by rfl) (fun K hK => ?_)
  go_simp
  refine hK.out _ _ (.inl (by kernel_rfl)) ?_
  clear hK K hHeld hw1 hw2
  (try simp only [Act.put, k1, k2, k3])
  refine wpAnyP_done (by kernel_rfl) ?_ _
  go_wp2
  go_returns
  exact ⟨rfl, HO0.out, nv, HP0.out⟩
set_option maxRecDepth 100000 in
set_option maxHeartbeats 4000000 in
theorem ref_5_3 (B base : Nat) (A : Option Addr) (l cp : Nat) (nv : Value) (r : LS) (w : World) (h : RunR w B base A l cp nv r) (hl : r.ns.length ≤ 900) (hx : Words r.xs) (ha : 0 ≤ r.a ∧ r.a < 4294967296) (h1 : r.op = 5) (h2 : r.line = 3) :
    Calls Tryz.prog 10 #[Value.pointer (some ⟨B, 0, none⟩)] w (DoneR B base A l cp w (.tuple #[]) r.tf) := by
  rw [show r.tf = r.turn 1 4 by unfold LS.tf; rw [h1, h2]; rfl]
  have H1 := Lib.hid h1
  have H2 := Lib.hid h2
  clear h1 h2
  have HX := Lib.hid hx
  have HL := Lib.hid hl
  have HA := Lib.hid ha
  have HH := Lib.hid h
  clear h hl hx ha
  have c4 : w.cell? ⟨B, 4, none⟩ = some (.int .i64 (5)) := by rw [← H1.out]; exact HH.out.row.cell_ (i := 4) rfl
  have c5 : w.cell? ⟨B, 5, none⟩ = some (.int .i64 (3)) := by rw [← H2.out]; exact HH.out.row.cell_ (i := 5) rfl
  have c6 : w.cell? ⟨B, 6, none⟩ = some (.int .u32 r.a) := HH.out.row.cell_ (i := 6) rfl
  have e0 := (Only.refl Nil w).alloc (.cells #[.int .i64 0, .int .u32 4294967295, .int .u32 r.a] 69)
  have HP := Lib.hid (HH.out.keep e0)
  have HO := Lib.hid (e0.mono (T := TurnB B A) (fun _ _ h => h.elim))
  have HU := Lib.hid (Row.new w 69 #[.int .i64 0, .int .u32 4294967295, .int .u32 r.a])
  clear e0 HH
  go_enter Tryz.func10, Tryz.ntmps10
  go_upto_region 3 with (fail)
  clear c4 c5 c6
  generalize w.alloc (.cells #[.int .i64 0, .int .u32 4294967295, .int .u32 r.a] 69) = w1 at *
  generalize w.heap.size = gu at *
  have hw1 : IntKind.i64.wrap (50) = 50 := rfl
  have hw2 : IntKind.i64.wrap (53) = 53 := rfl
  refine wp_region_phase (n := 10) 9 (fun w => w.cell? ⟨B, 4, none⟩ = some (.int .i64 (5)) ∧ w.cell? ⟨B, 5, none⟩ = some (.int .i64 (3))) rfl (by kernel_rfl) ⟨by rw [← H1.out]; exact HP.out.row.cell_ (i := 4) rfl, by rw [← H2.out]; exact HP.out.row.cell_ (i := 5) rfl⟩ (fun hHeld => ?_)
  have HP0 := Lib.hid (HP.out.keep (Only.refl Nil w1).drew)
  have HO0 := Lib.hid HO.out.drew
  have HU0 := Lib.hid HU.out.drew
  clear HP HO HU
  generalize w1.drew = w2 at *
  refine mpa 0 rfl (.pointer (some ⟨B, 4, none⟩)) (fun w => ?_) ?_
  · go_simp
  (try simp only [Act.put, k1, k2, k3])
  refine mpa 1 rfl (.pointer (some ⟨B, 4, none⟩)) (fun w => ?_) ?_
  · go_simp
  (try simp only [Act.put, k1, k2, k3])
  refine mpa 2 rfl (.pointer (some ⟨B, 4, none⟩)) (fun w => ?_) ?_
  · go_simp
  (try simp only [Act.put, k1, k2, k3])
  refine mpt 3 rfl (.int .i64 (5)) (fun w hSw => ?_) ?_
  · (try dsimp only at hSw)
    go_split_ands
    go_simp
  (try simp only [Act.put, k1, k2, k3])
  refine mpa 4 rfl (.int .i64 (50)) (fun w => ?_) ?_
  · go_simp
  (try simp only [Act.put, k1, k2, k3])
  refine mpa 5 rfl (.pointer (some ⟨B, 4, none⟩)) (fun w => ?_) ?_
  · go_simp
  (try simp only [Act.put, k1, k2, k3])
  refine mpa 6 rfl (.pointer (some ⟨B, 4, none⟩)) (fun w => ?_) ?_
  · go_simp
  (try simp only [Act.put, k1, k2, k3])
  refine mpa 7 rfl (.pointer (some ⟨B, 5, none⟩)) (fun w => ?_) ?_
  · go_simp
  (try simp only [Act.put, k1, k2, k3])
  refine mpt 8 rfl (.int .i64 (3)) (fun w hSw => ?_) ?_
  · (try dsimp only at hSw)
    go_split_ands
    go_simp
  (try simp only [Act.put, k1, k2, k3])
  refine mpc 9 rfl (by kernel_rfl) (by rfl) (fun K hK => ?_)
  go_simp
  refine hK.out _ _ (.inl (by kernel_rfl)) ?_
  clear hK K hHeld hw1 hw2
  (try simp only [Act.put, k1, k2, k3])
  refine wpAnyP_done (by kernel_rfl) ?_ _
  go_wp2_with fail
  refine (radd_run B base A l cp nv r 1 1 _ HP0.out).mono ?_
  rintro e w3 ⟨rfl, hO, nv1, hP⟩
  have HO1 := Lib.hid (HO0.out.trans hO)
  have HP1 := Lib.hid hP
  clear hO hP HP0 HO0
  have c4 : w3.cell? ⟨B, 4, none⟩ = some (.int .i64 (5)) := by rw [← H1.out]; exact HP1.out.row.cell_ (i := 4) rfl
  go_wp2_with fail
  clear c4
  refine (rnote_run B base A l cp nv1 _ 4 0 _ HP1.out (show (r.doA 3 1 1 0).ns.length ≤ 1000 from Nat.le_trans HL.out (by decide))).mono ?_
  rintro e w4 ⟨rfl, hO, nv2, hP⟩
  have HO2 := Lib.hid (HO1.out.trans hO)
  have HP2 := Lib.hid hP
  clear hO hP HP1 HO1
  go_wp2_with fail
  refine (rwake_run B base A l cp nv2 _ 1 _ HP2.out).mono ?_
  rintro e w5 ⟨rfl, hO, nv3, hP⟩
  have HO3 := Lib.hid (HO2.out.trans hO)
  have HP3 := Lib.hid hP
  clear hO hP HP2 HO2
  go_wp2_with fail
  refine (rend_run B base A l cp nv3 _ _ true HP3.out).mono ?_
  rintro e w6 ⟨rfl, hO, nv4, hP⟩
  have HO4 := Lib.hid (HO3.out.trans hO)
  have HP4 := Lib.hid hP
  clear hO hP HP3 HO3
  go_wp2
  go_returns
  exact ⟨rfl, HO4.out, nv4, HP4.out⟩
set_option maxRecDepth 100000 in
set_option maxHeartbeats 4000000 in
theorem ref_8_1 (B base : Nat) (A : Option Addr) (l cp : Nat) (nv : Value) (r : LS) (w : World) (h : RunR w B base A l cp nv r) (hl : r.ns.length ≤ 900) (hx : Words r.xs) (ha : 0 ≤ r.a ∧ r.a < 4294967296) (h1 : r.op = 8) (h2 : r.line = 1) :
    Calls Tryz.prog 10 #[Value.pointer (some ⟨B, 0, none⟩)] w (DoneR B base A l cp w (.tuple #[]) r.tf) := by
  rw [show r.tf = r by unfold LS.tf; rw [h1, h2]; rfl]
  have H1 := Lib.hid h1
  have H2 := Lib.hid h2
  clear h1 h2
  have HX := Lib.hid hx
  have HL := Lib.hid hl
  have HA := Lib.hid ha
  have HH := Lib.hid h
  clear h hl hx ha
  have c4 : w.cell? ⟨B, 4, none⟩ = some (.int .i64 (8)) := by rw [← H1.out]; exact HH.out.row.cell_ (i := 4) rfl
  have c5 : w.cell? ⟨B, 5, none⟩ = some (.int .i64 (1)) := by rw [← H2.out]; exact HH.out.row.cell_ (i := 5) rfl
  have c6 : w.cell? ⟨B, 6, none⟩ = some (.int .u32 r.a) := HH.out.row.cell_ (i := 6) rfl
  have e0 := (Only.refl Nil w).alloc (.cells #[.int .i64 0, .int .u32 4294967295, .int .u32 r.a] 69)
  have HP := Lib.hid (HH.out.keep e0)
  have HO := Lib.hid (e0.mono (T := TurnB B A) (fun _ _ h => h.elim))
  have HU := Lib.hid (Row.new w 69 #[.int .i64 0, .int .u32 4294967295, .int .u32 r.a])
  clear e0 HH
  go_enter Tryz.func10, Tryz.ntmps10
  go_upto_region 3 with (fail)
  clear c4 c5 c6
  generalize w.alloc (.cells #[.int .i64 0, .int .u32 4294967295, .int .u32 r.a] 69) = w1 at *
  generalize w.heap.size = gu at *
  have hw1 : IntKind.i64.wrap (80) = 80 := rfl
  have hw2 : IntKind.i64.wrap (81) = 81 := rfl
  refine wp_region_phase (n := 10) 9 (fun w => w.cell? ⟨B, 4, none⟩ = some (.int .i64 (8)) ∧ w.cell? ⟨B, 5, none⟩ = some (.int .i64 (1))) rfl (by kernel_rfl) ⟨by rw [← H1.out]; exact HP.out.row.cell_ (i := 4) rfl, by rw [← H2.out]; exact HP.out.row.cell_ (i := 5) rfl⟩ (fun hHeld => ?_)
  have HP0 := Lib.hid (HP.out.keep (Only.refl Nil w1).drew)
  have HO0 := Lib.hid HO.out.drew
  have HU0 := Lib.hid HU.out.drew
  clear HP HO HU
  generalize w1.drew = w2 at *
  refine mpa 0 rfl (.pointer (some ⟨B, 4, none⟩)) (fun w => ?_) ?_
  · go_simp
  (try simp only [Act.put, k1, k2, k3])
  refine mpa 1 rfl (.pointer (some ⟨B, 4, none⟩)) (fun w => ?_) ?_
  · go_simp
  (try simp only [Act.put, k1, k2, k3])
  refine mpa 2 rfl (.pointer (some ⟨B, 4, none⟩)) (fun w => ?_) ?_
  · go_simp
  (try simp only [Act.put, k1, k2, k3])
  refine mpt 3 rfl (.int .i64 (8)) (fun w hSw => ?_) ?_
  · (try dsimp only at hSw)
    go_split_ands
    go_simp
  (try simp only [Act.put, k1, k2, k3])
  refine mpa 4 rfl (.int .i64 (80)) (fun w => ?_) ?_
  · go_simp
  (try simp only [Act.put, k1, k2, k3])
  refine mpa 5 rfl (.pointer (some ⟨B, 4, none⟩)) (fun w => ?_) ?_
  · go_simp
  (try simp only [Act.put, k1, k2, k3])
  refine mpa 6 rfl (.pointer (some ⟨B, 4, none⟩)) (fun w => ?_) ?_
  · go_simp
  (try simp only [Act.put, k1, k2, k3])
  refine mpa 7 rfl (.pointer (some ⟨B, 5, none⟩)) (fun w => ?_) ?_
  · go_simp
  (try simp only [Act.put, k1, k2, k3])
  refine mpt 8 rfl (.int .i64 (1)) (fun w hSw => ?_) ?_
  · (try dsimp only at hSw)
    go_split_ands
    go_simp
  (try simp only [Act.put, k1, k2, k3])
  refine mpc 9 rfl (by kernel_rfl) (by rfl) (fun K hK => ?_)
  go_simp
  refine hK.out _ _ (.inl (by kernel_rfl)) ?_
  clear hK K hHeld hw1 hw2
  (try simp only [Act.put, k1, k2, k3])
  refine wpAnyP_done (by kernel_rfl) ?_ _
  go_wp2
  go_returns
  exact ⟨rfl, HO0.out, nv, HP0.out⟩
end Go.Proofs.YtdmpaoajcnjbaaaGreat
set_option linter.unusedVariables false
set_option linter.unusedSimpArgs false
namespace Go.Proofs.YtdmpaoajcnjbaaaGreat
open Go.RowKit
set_option maxRecDepth 100000 in
theorem ref_a0 (B base : Nat) (A : Option Addr) (l cp : Nat) (nv : Value) (r : LS) (w : World) (h : RunR w B base A l cp nv r) (hl : r.ns.length ≤ 900) (hx : Words r.xs) (ha : 0 ≤ r.a ∧ r.a < 4294967296) (h1 : r.line < 0) : Calls Tryz.prog 10 #[Value.pointer (some ⟨B, 0, none⟩)] w (DoneR B base A l cp w (.tuple #[]) r) := by
  obtain ⟨ol, H1⟩ : ∃ ol, Hid (r.op = ol) := ⟨_, Lib.hid rfl⟩
  obtain ⟨ln, H2⟩ : ∃ ln, Hid (r.line = ln) := ⟨_, Lib.hid rfl⟩
  rw [H2.out] at h1
  have HX := Lib.hid hx
  have HL := Lib.hid hl
  have HA := Lib.hid ha
  have HH := Lib.hid h
  clear h hl hx ha
  have c4 : w.cell? ⟨B, 4, none⟩ = some (.int .i64 (ol)) := by rw [← H1.out]; exact HH.out.row.cell_ (i := 4) rfl
  have c5 : w.cell? ⟨B, 5, none⟩ = some (.int .i64 (ln)) := by rw [← H2.out]; exact HH.out.row.cell_ (i := 5) rfl
  skip
  go_enter Tryz.func10, Tryz.ntmps10
  go_wp2
  go_returns
  exact ⟨rfl, Only.refl _ _, nv, HH.out⟩
set_option maxRecDepth 100000 in
theorem ref_a1 (B base : Nat) (A : Option Addr) (l cp : Nat) (nv : Value) (r : LS) (w : World) (h : RunR w B base A l cp nv r) (hl : r.ns.length ≤ 900) (hx : Words r.xs) (ha : 0 ≤ r.a ∧ r.a < 4294967296) (h1 : 3 < r.line) : Calls Tryz.prog 10 #[Value.pointer (some ⟨B, 0, none⟩)] w (DoneR B base A l cp w (.tuple #[]) r) := by
  obtain ⟨ol, H1⟩ : ∃ ol, Hid (r.op = ol) := ⟨_, Lib.hid rfl⟩
  obtain ⟨ln, H2⟩ : ∃ ln, Hid (r.line = ln) := ⟨_, Lib.hid rfl⟩
  rw [H2.out] at h1
  have HX := Lib.hid hx
  have HL := Lib.hid hl
  have HA := Lib.hid ha
  have HH := Lib.hid h
  clear h hl hx ha
  have c4 : w.cell? ⟨B, 4, none⟩ = some (.int .i64 (ol)) := by rw [← H1.out]; exact HH.out.row.cell_ (i := 4) rfl
  have c5 : w.cell? ⟨B, 5, none⟩ = some (.int .i64 (ln)) := by rw [← H2.out]; exact HH.out.row.cell_ (i := 5) rfl
  have hm : ¬ ln < 0 := by omega
  go_enter Tryz.func10, Tryz.ntmps10
  go_wp2
  go_returns
  exact ⟨rfl, Only.refl _ _, nv, HH.out⟩
set_option maxRecDepth 100000 in
theorem ref_a2 (B base : Nat) (A : Option Addr) (l cp : Nat) (nv : Value) (r : LS) (w : World) (h : RunR w B base A l cp nv r) (hl : r.ns.length ≤ 900) (hx : Words r.xs) (ha : 0 ≤ r.a ∧ r.a < 4294967296) (h0 : 0 ≤ r.line ∧ r.line ≤ 3) (h1 : r.op < 1) : Calls Tryz.prog 10 #[Value.pointer (some ⟨B, 0, none⟩)] w (DoneR B base A l cp w (.tuple #[]) r) := by
  obtain ⟨ol, H1⟩ : ∃ ol, Hid (r.op = ol) := ⟨_, Lib.hid rfl⟩
  obtain ⟨ln, H2⟩ : ∃ ln, Hid (r.line = ln) := ⟨_, Lib.hid rfl⟩
  rw [H1.out] at h1
  rw [H2.out] at h0
  obtain ⟨hl0, hl1⟩ := h0
  have HX := Lib.hid hx
  have HL := Lib.hid hl
  have HA := Lib.hid ha
  have HH := Lib.hid h
  clear h hl hx ha
  have c4 : w.cell? ⟨B, 4, none⟩ = some (.int .i64 (ol)) := by rw [← H1.out]; exact HH.out.row.cell_ (i := 4) rfl
  have c5 : w.cell? ⟨B, 5, none⟩ = some (.int .i64 (ln)) := by rw [← H2.out]; exact HH.out.row.cell_ (i := 5) rfl
  have hm1 : ¬ ln < 0 := by omega
  have hm2 : ¬ 3 < ln := by omega
  skip
  go_enter Tryz.func10, Tryz.ntmps10
  go_wp2
  go_returns
  exact ⟨rfl, Only.refl _ _, nv, HH.out⟩
set_option maxRecDepth 100000 in
theorem ref_a3 (B base : Nat) (A : Option Addr) (l cp : Nat) (nv : Value) (r : LS) (w : World) (h : RunR w B base A l cp nv r) (hl : r.ns.length ≤ 900) (hx : Words r.xs) (ha : 0 ≤ r.a ∧ r.a < 4294967296) (h0 : 0 ≤ r.line ∧ r.line ≤ 3) (h1 : 8 < r.op) : Calls Tryz.prog 10 #[Value.pointer (some ⟨B, 0, none⟩)] w (DoneR B base A l cp w (.tuple #[]) r) := by
  obtain ⟨ol, H1⟩ : ∃ ol, Hid (r.op = ol) := ⟨_, Lib.hid rfl⟩
  obtain ⟨ln, H2⟩ : ∃ ln, Hid (r.line = ln) := ⟨_, Lib.hid rfl⟩
  rw [H1.out] at h1
  rw [H2.out] at h0
  obtain ⟨hl0, hl1⟩ := h0
  have HX := Lib.hid hx
  have HL := Lib.hid hl
  have HA := Lib.hid ha
  have HH := Lib.hid h
  clear h hl hx ha
  have c4 : w.cell? ⟨B, 4, none⟩ = some (.int .i64 (ol)) := by rw [← H1.out]; exact HH.out.row.cell_ (i := 4) rfl
  have c5 : w.cell? ⟨B, 5, none⟩ = some (.int .i64 (ln)) := by rw [← H2.out]; exact HH.out.row.cell_ (i := 5) rfl
  have hm1 : ¬ ln < 0 := by omega
  have hm2 : ¬ 3 < ln := by omega
  have hm3 : ¬ ol < 1 := by omega
  go_enter Tryz.func10, Tryz.ntmps10
  go_wp2
  go_returns
  exact ⟨rfl, Only.refl _ _, nv, HH.out⟩
theorem tfCase_away {op line : Int} (h : op < 1 ∨ 8 < op ∨ line < 0 ∨ 3 < line) : tfCase op line = 0 := by
  unfold tfCase
  repeat rw [if_neg (by omega)]
theorem ref_lines (B base : Nat) (A : Option Addr) (l cp : Nat) (nv : Value) (r : LS) (w : World) (h : RunR w B base A l cp nv r) (hl : r.ns.length ≤ 900) (hx : Words r.xs) (ha : 0 ≤ r.a ∧ r.a < 4294967296) : Calls Tryz.prog 10 #[Value.pointer (some ⟨B, 0, none⟩)] w (DoneR B base A l cp w (.tuple #[]) r.tf) := by
  have away : (r.op < 1 ∨ 8 < r.op ∨ r.line < 0 ∨ 3 < r.line) → r.tf = r := fun h => by unfold LS.tf; rw [tfCase_away h]; rfl
  by_cases l0 : r.line < 0
  · rw [away (.inr (.inr (.inl l0)))]; exact ref_a0 B base A l cp nv r w h hl hx ha l0
  by_cases l3 : 3 < r.line
  · rw [away (.inr (.inr (.inr l3)))]; exact ref_a1 B base A l cp nv r w h hl hx ha l3
  by_cases o0 : r.op < 1
  · rw [away (.inl o0)]; exact ref_a2 B base A l cp nv r w h hl hx ha ⟨by omega, by omega⟩ o0
  by_cases o8 : 8 < r.op
  · rw [away (.inr (.inl o8))]; exact ref_a3 B base A l cp nv r w h hl hx ha ⟨by omega, by omega⟩ o8
  have ho : r.op = 1 ∨ r.op = 2 ∨ r.op = 3 ∨ r.op = 4 ∨ r.op = 5 ∨ r.op = 6 ∨ r.op = 7 ∨ r.op = 8 := by omega
  have hn : r.line = 0 ∨ r.line = 1 ∨ r.line = 2 ∨ r.line = 3 := by omega
  rcases ho with o | o | o | o | o | o | o | o
  all_goals rcases hn with n | n | n | n
  · exact ref_1_0 B base A l cp nv r w h hl hx ha o n
  · exact ref_1_1 B base A l cp nv r w h hl hx ha o n
  · exact ref_1_2 B base A l cp nv r w h hl hx ha o n
  · exact ref_1_3 B base A l cp nv r w h hl hx ha o n
  · exact ref_2_0 B base A l cp nv r w h hl hx ha o n
  · exact ref_2_1 B base A l cp nv r w h hl hx ha o n
  · exact ref_2_2 B base A l cp nv r w h hl hx ha o n
  · exact ref_2_3 B base A l cp nv r w h hl hx ha o n
  · exact ref_3_0 B base A l cp nv r w h hl hx ha o n
  · exact ref_3_1 B base A l cp nv r w h hl hx ha o n
  · exact ref_3_2 B base A l cp nv r w h hl hx ha o n
  · exact ref_3_3 B base A l cp nv r w h hl hx ha o n
  · exact ref_4_0 B base A l cp nv r w h hl hx ha o n
  · exact ref_4_1 B base A l cp nv r w h hl hx ha o n
  · exact ref_4_2 B base A l cp nv r w h hl hx ha o n
  · exact ref_4_3 B base A l cp nv r w h hl hx ha o n
  · exact ref_5_0 B base A l cp nv r w h hl hx ha o n
  · exact ref_5_1 B base A l cp nv r w h hl hx ha o n
  · exact ref_5_2 B base A l cp nv r w h hl hx ha o n
  · exact ref_5_3 B base A l cp nv r w h hl hx ha o n
  · exact ref_6_0 B base A l cp nv r w h hl hx ha o n
  · exact ref_6_1 B base A l cp nv r w h hl hx ha o n
  · exact ref_6_2 B base A l cp nv r w h hl hx ha o n
  · exact ref_6_3 B base A l cp nv r w h hl hx ha o n
  · exact ref_7_0 B base A l cp nv r w h hl hx ha o n
  · exact ref_7_1 B base A l cp nv r w h hl hx ha o n
  · exact ref_7_2 B base A l cp nv r w h hl hx ha o n
  · exact ref_7_3 B base A l cp nv r w h hl hx ha o n
  · exact ref_8_0 B base A l cp nv r w h hl hx ha o n
  · exact ref_8_1 B base A l cp nv r w h hl hx ha o n
  · exact ref_8_2 B base A l cp nv r w h hl hx ha o n
  · exact ref_8_3 B base A l cp nv r w h hl hx ha o n
end Go.Proofs.YtdmpaoajcnjbaaaGreat
