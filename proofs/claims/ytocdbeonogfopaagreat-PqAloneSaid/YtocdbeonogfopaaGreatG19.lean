import Derived.Test.YtocdbeonogfopaaGreatG17
import Derived.Test.YtocdbeonogfopaaGreatG11
import Derived.Test.YtocdbeonogfopaaGreatG12
import Derived.Test.YtocdbeonogfopaaGreatG16
set_option linter.unusedVariables false
set_option linter.unusedSimpArgs false
namespace Go.Proofs.YtocdbeonogfopaaGreat
open Go.RowKit
set_option maxRecDepth 100000 in
set_option maxHeartbeats 4000000 in
theorem tryOf_7_0 (B : Nat) (p A : Option Addr) (cp : Nat) (nv : Value) (r : LS) (w : World) (h : RunP w B p A cp nv r) (hl : r.ns.length ≤ 900) (hx : Words r.xs) (ha : 0 ≤ r.a ∧ r.a < 4294967296) (hb : 0 ≤ r.b ∧ r.b < 4294967296) (h1 : r.op = 7) (h2 : r.line = 0 ∨ r.line = 1) :
    Calls Tryz.prog 46 #[Value.pointer (some ⟨B, 0, none⟩)] w (Clo 114 B p A cp r.pq w) := by
  have HT := Lib.hid (show r.pq = r.wTry by (rcases h2 with h2 | h2 <;> (unfold LS.pq; rw [h1, h2]; rfl)))
  have H1 := Lib.hid h1
  have HH := Lib.hid h2
  clear h1 h2
  obtain ⟨ln, H2⟩ : ∃ ln, Hid (r.line = ln) := ⟨_, Lib.hid rfl⟩
  have HX := Lib.hid hx
  have HL := Lib.hid hl
  have HA := Lib.hid ha
  have HB := Lib.hid hb
  have HP := Lib.hid h
  have c4 : w.cell? ⟨B, 4, none⟩ = some (.int .i64 (7)) := by rw [← H1.out]; exact HP.out.row.cell_ (i := 4) rfl
  have c5 : w.cell? ⟨B, 5, none⟩ = some (.int .i64 (ln)) := by rw [← H2.out]; exact HP.out.row.cell_ (i := 5) rfl
  clear h hl hx ha hb
  go_enter Tryz.func46, Tryz.ntmps46
  go_upto_region 1 with (fail)
  refine wp_region_phase (n := 11) 10 (fun w => w.cell? ⟨B, 4, none⟩ = some (.int .i64 (7)) ∧ w.cell? ⟨B, 5, none⟩ = some (.int .i64 (ln))) rfl (by kernel_rfl) ⟨c4, c5⟩ (fun hHeld => ?_)
  clear c4 c5
  have HP1 := Lib.hid (HP.out.keep (Only.refl Nil w).drew)
  have HO1 := Lib.hid (Only.refl Nil w).drew
  clear HP
  generalize w.drew = w2 at *
  refine mpa 0 rfl (Value.pointer (some ⟨B, 0, none⟩)) (fun w => ?_) ?_
  · go_simp
  (try simp only [Act.put, k1, k2, k3])
  refine mpa 1 rfl (Value.pointer (some ⟨B, 0, none⟩)) (fun w => ?_) ?_
  · go_simp
  (try simp only [Act.put, k1, k2, k3])
  refine mpa 2 rfl (.pointer (some ⟨B, 4, none⟩)) (fun w => ?_) ?_
  · go_simp
  (try simp only [Act.put, k1, k2, k3])
  refine mpa 3 rfl (.pointer (some ⟨B, 4, none⟩)) (fun w => ?_) ?_
  · go_simp
  (try simp only [Act.put, k1, k2, k3])
  refine mpt 4 rfl (.int .i64 (7)) (fun w hSw => ?_) ?_
  · (try dsimp only at hSw)
    go_split_ands
    go_simp
  (try simp only [Act.put, k1, k2, k3])
  refine mpa 5 rfl (Value.pointer (some ⟨B, 0, none⟩)) (fun w => ?_) ?_
  · go_simp
  (try simp only [Act.put, k1, k2, k3])
  refine mpa 6 rfl (Value.pointer (some ⟨B, 0, none⟩)) (fun w => ?_) ?_
  · go_simp
  (try simp only [Act.put, k1, k2, k3])
  refine mpa 7 rfl (.pointer (some ⟨B, 4, none⟩)) (fun w => ?_) ?_
  · go_simp
  (try simp only [Act.put, k1, k2, k3])
  refine mpa 8 rfl (.pointer (some ⟨B, 5, none⟩)) (fun w => ?_) ?_
  · go_simp
  (try simp only [Act.put, k1, k2, k3])
  refine mpt 9 rfl (.int .i64 (ln)) (fun w hSw => ?_) ?_
  · (try dsimp only at hSw)
    go_split_ands
    go_simp
  (try simp only [Act.put, k1, k2, k3])
  refine mpc 10 rfl (by kernel_rfl) (by rfl) (fun K hK => ?_)
  go_simp
  refine hK.out _ _ (.inl (by kernel_rfl)) ?_
  clear hK K
  (try simp only [Act.put, k1, k2, k3])
  refine wpAnyP_done (by kernel_rfl) ?_ _
  clear hHeld
  have hln := HH.out
  clear HH
  rw [H2.out] at hln
  rcases hln with rfl | rfl
  all_goals
    go_wp2_with fail
    have hc := wtry_make B p A cp nv r _ HP1.out HL.out HX.out HA.out
    rw [← HT.out] at hc
    refine hc.mono ?_
    rintro e w3 ⟨caps, rfl, hO, hC⟩
    have HO3 := Lib.hid (HO1.out.trans hO)
    have HC3 := Lib.hid hC
    clear hO hC hc
    go_wp2
    go_ret
    exact ⟨caps, rfl, HO3.out, HC3.out⟩
set_option maxRecDepth 100000 in
set_option maxHeartbeats 4000000 in
theorem stepOf_3_6 (B : Nat) (p A : Option Addr) (cp : Nat) (nv : Value) (r : LS) (w : World) (h : RunP w B p A cp nv r) (hl : r.ns.length ≤ 900) (hx : Words r.xs) (ha : 0 ≤ r.a ∧ r.a < 4294967296) (hb : 0 ≤ r.b ∧ r.b < 4294967296) (h1 : r.op = 3) (h2 : r.line = 6) :
    Calls Tryz.prog 32 #[Value.pointer (some ⟨B, 0, none⟩)] w (Clo 58 B p A cp r.pq w) := by
  have HT := Lib.hid (show r.pq = r.pAppear 7 by unfold LS.pq; rw [h1, h2]; rfl)
  have H1 := Lib.hid h1
  have HH := Lib.hid h2
  clear h1 h2
  obtain ⟨ln, H2⟩ : ∃ ln, Hid (r.line = ln) := ⟨_, Lib.hid rfl⟩
  have HX := Lib.hid hx
  have HL := Lib.hid hl
  have HA := Lib.hid ha
  have HB := Lib.hid hb
  have HP := Lib.hid h
  have c4 : w.cell? ⟨B, 4, none⟩ = some (.int .i64 (3)) := by rw [← H1.out]; exact HP.out.row.cell_ (i := 4) rfl
  have c5 : w.cell? ⟨B, 5, none⟩ = some (.int .i64 (ln)) := by rw [← H2.out]; exact HP.out.row.cell_ (i := 5) rfl
  clear h hl hx ha hb
  go_enter Tryz.func32, Tryz.ntmps32
  go_upto_region 1 with (fail)
  refine wp_region_phase (n := 11) 10 (fun w => w.cell? ⟨B, 4, none⟩ = some (.int .i64 (3)) ∧ w.cell? ⟨B, 5, none⟩ = some (.int .i64 (ln))) rfl (by kernel_rfl) ⟨c4, c5⟩ (fun hHeld => ?_)
  clear c4 c5
  have HP1 := Lib.hid (HP.out.keep (Only.refl Nil w).drew)
  have HO1 := Lib.hid (Only.refl Nil w).drew
  clear HP
  generalize w.drew = w2 at *
  refine mpa 0 rfl (Value.pointer (some ⟨B, 0, none⟩)) (fun w => ?_) ?_
  · go_simp
  (try simp only [Act.put, k1, k2, k3])
  refine mpa 1 rfl (Value.pointer (some ⟨B, 0, none⟩)) (fun w => ?_) ?_
  · go_simp
  (try simp only [Act.put, k1, k2, k3])
  refine mpa 2 rfl (.pointer (some ⟨B, 4, none⟩)) (fun w => ?_) ?_
  · go_simp
  (try simp only [Act.put, k1, k2, k3])
  refine mpa 3 rfl (.pointer (some ⟨B, 4, none⟩)) (fun w => ?_) ?_
  · go_simp
  (try simp only [Act.put, k1, k2, k3])
  refine mpt 4 rfl (.int .i64 (3)) (fun w hSw => ?_) ?_
  · (try dsimp only at hSw)
    go_split_ands
    go_simp
  (try simp only [Act.put, k1, k2, k3])
  refine mpa 5 rfl (Value.pointer (some ⟨B, 0, none⟩)) (fun w => ?_) ?_
  · go_simp
  (try simp only [Act.put, k1, k2, k3])
  refine mpa 6 rfl (Value.pointer (some ⟨B, 0, none⟩)) (fun w => ?_) ?_
  · go_simp
  (try simp only [Act.put, k1, k2, k3])
  refine mpa 7 rfl (.pointer (some ⟨B, 4, none⟩)) (fun w => ?_) ?_
  · go_simp
  (try simp only [Act.put, k1, k2, k3])
  refine mpa 8 rfl (.pointer (some ⟨B, 5, none⟩)) (fun w => ?_) ?_
  · go_simp
  (try simp only [Act.put, k1, k2, k3])
  refine mpt 9 rfl (.int .i64 (ln)) (fun w hSw => ?_) ?_
  · (try dsimp only at hSw)
    go_split_ands
    go_simp
  (try simp only [Act.put, k1, k2, k3])
  refine mpc 10 rfl (by kernel_rfl) (by rfl) (fun K hK => ?_)
  go_simp
  refine hK.out _ _ (.inl (by kernel_rfl)) ?_
  clear hK K
  (try simp only [Act.put, k1, k2, k3])
  refine wpAnyP_done (by kernel_rfl) ?_ _
  clear hHeld
  have hln := HH.out
  clear HH
  rw [H2.out] at hln
  rcases hln with rfl
  all_goals
    go_wp2_with fail
    have hc := wapp_make B p A cp nv r 7 _ HP1.out HL.out HB.out
    rw [← HT.out] at hc
    refine hc.mono ?_
    rintro e w3 ⟨caps, rfl, hO, hC⟩
    have HO3 := Lib.hid (HO1.out.trans hO)
    have HC3 := Lib.hid hC
    clear hO hC hc
    go_wp2
    go_ret
    exact ⟨caps, rfl, HO3.out, HC3.out⟩
set_option maxRecDepth 100000 in
set_option maxHeartbeats 4000000 in
theorem stepOf_4_0 (B : Nat) (p A : Option Addr) (cp : Nat) (nv : Value) (r : LS) (w : World) (h : RunP w B p A cp nv r) (hl : r.ns.length ≤ 900) (hx : Words r.xs) (ha : 0 ≤ r.a ∧ r.a < 4294967296) (hb : 0 ≤ r.b ∧ r.b < 4294967296) (h1 : r.op = 4) (h2 : r.line = 0) :
    Calls Tryz.prog 32 #[Value.pointer (some ⟨B, 0, none⟩)] w (Clo 56 B p A cp r.pq w) := by
  have HT := Lib.hid (show r.pq = r.wKeep 1 by unfold LS.pq; rw [h1, h2]; rfl)
  have H1 := Lib.hid h1
  have HH := Lib.hid h2
  clear h1 h2
  obtain ⟨ln, H2⟩ : ∃ ln, Hid (r.line = ln) := ⟨_, Lib.hid rfl⟩
  have HX := Lib.hid hx
  have HL := Lib.hid hl
  have HA := Lib.hid ha
  have HB := Lib.hid hb
  have HP := Lib.hid h
  have c4 : w.cell? ⟨B, 4, none⟩ = some (.int .i64 (4)) := by rw [← H1.out]; exact HP.out.row.cell_ (i := 4) rfl
  have c5 : w.cell? ⟨B, 5, none⟩ = some (.int .i64 (ln)) := by rw [← H2.out]; exact HP.out.row.cell_ (i := 5) rfl
  clear h hl hx ha hb
  go_enter Tryz.func32, Tryz.ntmps32
  go_upto_region 1 with (fail)
  refine wp_region_phase (n := 11) 10 (fun w => w.cell? ⟨B, 4, none⟩ = some (.int .i64 (4)) ∧ w.cell? ⟨B, 5, none⟩ = some (.int .i64 (ln))) rfl (by kernel_rfl) ⟨c4, c5⟩ (fun hHeld => ?_)
  clear c4 c5
  have HP1 := Lib.hid (HP.out.keep (Only.refl Nil w).drew)
  have HO1 := Lib.hid (Only.refl Nil w).drew
  clear HP
  generalize w.drew = w2 at *
  refine mpa 0 rfl (Value.pointer (some ⟨B, 0, none⟩)) (fun w => ?_) ?_
  · go_simp
  (try simp only [Act.put, k1, k2, k3])
  refine mpa 1 rfl (Value.pointer (some ⟨B, 0, none⟩)) (fun w => ?_) ?_
  · go_simp
  (try simp only [Act.put, k1, k2, k3])
  refine mpa 2 rfl (.pointer (some ⟨B, 4, none⟩)) (fun w => ?_) ?_
  · go_simp
  (try simp only [Act.put, k1, k2, k3])
  refine mpa 3 rfl (.pointer (some ⟨B, 4, none⟩)) (fun w => ?_) ?_
  · go_simp
  (try simp only [Act.put, k1, k2, k3])
  refine mpt 4 rfl (.int .i64 (4)) (fun w hSw => ?_) ?_
  · (try dsimp only at hSw)
    go_split_ands
    go_simp
  (try simp only [Act.put, k1, k2, k3])
  refine mpa 5 rfl (Value.pointer (some ⟨B, 0, none⟩)) (fun w => ?_) ?_
  · go_simp
  (try simp only [Act.put, k1, k2, k3])
  refine mpa 6 rfl (Value.pointer (some ⟨B, 0, none⟩)) (fun w => ?_) ?_
  · go_simp
  (try simp only [Act.put, k1, k2, k3])
  refine mpa 7 rfl (.pointer (some ⟨B, 4, none⟩)) (fun w => ?_) ?_
  · go_simp
  (try simp only [Act.put, k1, k2, k3])
  refine mpa 8 rfl (.pointer (some ⟨B, 5, none⟩)) (fun w => ?_) ?_
  · go_simp
  (try simp only [Act.put, k1, k2, k3])
  refine mpt 9 rfl (.int .i64 (ln)) (fun w hSw => ?_) ?_
  · (try dsimp only at hSw)
    go_split_ands
    go_simp
  (try simp only [Act.put, k1, k2, k3])
  refine mpc 10 rfl (by kernel_rfl) (by rfl) (fun K hK => ?_)
  go_simp
  refine hK.out _ _ (.inl (by kernel_rfl)) ?_
  clear hK K
  (try simp only [Act.put, k1, k2, k3])
  refine wpAnyP_done (by kernel_rfl) ?_ _
  clear hHeld
  have hln := HH.out
  clear HH
  rw [H2.out] at hln
  rcases hln with rfl
  all_goals
    go_wp2_with fail
    have hc := wkeep_make B p A cp nv r 1 _ HP1.out HL.out
    rw [← HT.out] at hc
    refine hc.mono ?_
    rintro e w3 ⟨caps, rfl, hO, hC⟩
    have HO3 := Lib.hid (HO1.out.trans hO)
    have HC3 := Lib.hid hC
    clear hO hC hc
    go_wp2
    go_ret
    exact ⟨caps, rfl, HO3.out, HC3.out⟩
set_option maxRecDepth 100000 in
set_option maxHeartbeats 4000000 in
theorem tryOf_6_2 (B : Nat) (p A : Option Addr) (cp : Nat) (nv : Value) (r : LS) (w : World) (h : RunP w B p A cp nv r) (hl : r.ns.length ≤ 900) (hx : Words r.xs) (ha : 0 ≤ r.a ∧ r.a < 4294967296) (hb : 0 ≤ r.b ∧ r.b < 4294967296) (h1 : r.op = 6) (h2 : r.line = 2) :
    Calls Tryz.prog 46 #[Value.pointer (some ⟨B, 0, none⟩)] w (Clo 116 B p A cp r.pq w) := by
  have HT := Lib.hid (show r.pq = r.pLook 0 3 by unfold LS.pq; rw [h1, h2]; rfl)
  have H1 := Lib.hid h1
  have HH := Lib.hid h2
  clear h1 h2
  obtain ⟨ln, H2⟩ : ∃ ln, Hid (r.line = ln) := ⟨_, Lib.hid rfl⟩
  have HX := Lib.hid hx
  have HL := Lib.hid hl
  have HA := Lib.hid ha
  have HB := Lib.hid hb
  have HP := Lib.hid h
  have c4 : w.cell? ⟨B, 4, none⟩ = some (.int .i64 (6)) := by rw [← H1.out]; exact HP.out.row.cell_ (i := 4) rfl
  have c5 : w.cell? ⟨B, 5, none⟩ = some (.int .i64 (ln)) := by rw [← H2.out]; exact HP.out.row.cell_ (i := 5) rfl
  clear h hl hx ha hb
  go_enter Tryz.func46, Tryz.ntmps46
  go_upto_region 1 with (fail)
  refine wp_region_phase (n := 11) 10 (fun w => w.cell? ⟨B, 4, none⟩ = some (.int .i64 (6)) ∧ w.cell? ⟨B, 5, none⟩ = some (.int .i64 (ln))) rfl (by kernel_rfl) ⟨c4, c5⟩ (fun hHeld => ?_)
  clear c4 c5
  have HP1 := Lib.hid (HP.out.keep (Only.refl Nil w).drew)
  have HO1 := Lib.hid (Only.refl Nil w).drew
  clear HP
  generalize w.drew = w2 at *
  refine mpa 0 rfl (Value.pointer (some ⟨B, 0, none⟩)) (fun w => ?_) ?_
  · go_simp
  (try simp only [Act.put, k1, k2, k3])
  refine mpa 1 rfl (Value.pointer (some ⟨B, 0, none⟩)) (fun w => ?_) ?_
  · go_simp
  (try simp only [Act.put, k1, k2, k3])
  refine mpa 2 rfl (.pointer (some ⟨B, 4, none⟩)) (fun w => ?_) ?_
  · go_simp
  (try simp only [Act.put, k1, k2, k3])
  refine mpa 3 rfl (.pointer (some ⟨B, 4, none⟩)) (fun w => ?_) ?_
  · go_simp
  (try simp only [Act.put, k1, k2, k3])
  refine mpt 4 rfl (.int .i64 (6)) (fun w hSw => ?_) ?_
  · (try dsimp only at hSw)
    go_split_ands
    go_simp
  (try simp only [Act.put, k1, k2, k3])
  refine mpa 5 rfl (Value.pointer (some ⟨B, 0, none⟩)) (fun w => ?_) ?_
  · go_simp
  (try simp only [Act.put, k1, k2, k3])
  refine mpa 6 rfl (Value.pointer (some ⟨B, 0, none⟩)) (fun w => ?_) ?_
  · go_simp
  (try simp only [Act.put, k1, k2, k3])
  refine mpa 7 rfl (.pointer (some ⟨B, 4, none⟩)) (fun w => ?_) ?_
  · go_simp
  (try simp only [Act.put, k1, k2, k3])
  refine mpa 8 rfl (.pointer (some ⟨B, 5, none⟩)) (fun w => ?_) ?_
  · go_simp
  (try simp only [Act.put, k1, k2, k3])
  refine mpt 9 rfl (.int .i64 (ln)) (fun w hSw => ?_) ?_
  · (try dsimp only at hSw)
    go_split_ands
    go_simp
  (try simp only [Act.put, k1, k2, k3])
  refine mpc 10 rfl (by kernel_rfl) (by rfl) (fun K hK => ?_)
  go_simp
  refine hK.out _ _ (.inl (by kernel_rfl)) ?_
  clear hK K
  (try simp only [Act.put, k1, k2, k3])
  refine wpAnyP_done (by kernel_rfl) ?_ _
  clear hHeld
  have hln := HH.out
  clear HH
  rw [H2.out] at hln
  rcases hln with rfl
  all_goals
    go_wp2_with fail
    have hc := wcom_make B p A cp nv r _ HP1.out HL.out
    rw [← HT.out] at hc
    refine hc.mono ?_
    rintro e w3 ⟨caps, rfl, hO, hC⟩
    have HO3 := Lib.hid (HO1.out.trans hO)
    have HC3 := Lib.hid hC
    clear hO hC hc
    go_wp2
    go_ret
    exact ⟨caps, rfl, HO3.out, HC3.out⟩
set_option maxRecDepth 100000 in
set_option maxHeartbeats 4000000 in
theorem tryOf_7_4 (B : Nat) (p A : Option Addr) (cp : Nat) (nv : Value) (r : LS) (w : World) (h : RunP w B p A cp nv r) (hl : r.ns.length ≤ 900) (hx : Words r.xs) (ha : 0 ≤ r.a ∧ r.a < 4294967296) (hb : 0 ≤ r.b ∧ r.b < 4294967296) (h1 : r.op = 7) (h2 : r.line = 4) :
    Calls Tryz.prog 46 #[Value.pointer (some ⟨B, 0, none⟩)] w (Clo 56 B p A cp r.pq w) := by
  have HT := Lib.hid (show r.pq = r.wKeep 5 by unfold LS.pq; rw [h1, h2]; rfl)
  have H1 := Lib.hid h1
  have HH := Lib.hid h2
  clear h1 h2
  obtain ⟨ln, H2⟩ : ∃ ln, Hid (r.line = ln) := ⟨_, Lib.hid rfl⟩
  have HX := Lib.hid hx
  have HL := Lib.hid hl
  have HA := Lib.hid ha
  have HB := Lib.hid hb
  have HP := Lib.hid h
  have c4 : w.cell? ⟨B, 4, none⟩ = some (.int .i64 (7)) := by rw [← H1.out]; exact HP.out.row.cell_ (i := 4) rfl
  have c5 : w.cell? ⟨B, 5, none⟩ = some (.int .i64 (ln)) := by rw [← H2.out]; exact HP.out.row.cell_ (i := 5) rfl
  clear h hl hx ha hb
  go_enter Tryz.func46, Tryz.ntmps46
  go_upto_region 1 with (fail)
  refine wp_region_phase (n := 11) 10 (fun w => w.cell? ⟨B, 4, none⟩ = some (.int .i64 (7)) ∧ w.cell? ⟨B, 5, none⟩ = some (.int .i64 (ln))) rfl (by kernel_rfl) ⟨c4, c5⟩ (fun hHeld => ?_)
  clear c4 c5
  have HP1 := Lib.hid (HP.out.keep (Only.refl Nil w).drew)
  have HO1 := Lib.hid (Only.refl Nil w).drew
  clear HP
  generalize w.drew = w2 at *
  refine mpa 0 rfl (Value.pointer (some ⟨B, 0, none⟩)) (fun w => ?_) ?_
  · go_simp
  (try simp only [Act.put, k1, k2, k3])
  refine mpa 1 rfl (Value.pointer (some ⟨B, 0, none⟩)) (fun w => ?_) ?_
  · go_simp
  (try simp only [Act.put, k1, k2, k3])
  refine mpa 2 rfl (.pointer (some ⟨B, 4, none⟩)) (fun w => ?_) ?_
  · go_simp
  (try simp only [Act.put, k1, k2, k3])
  refine mpa 3 rfl (.pointer (some ⟨B, 4, none⟩)) (fun w => ?_) ?_
  · go_simp
  (try simp only [Act.put, k1, k2, k3])
  refine mpt 4 rfl (.int .i64 (7)) (fun w hSw => ?_) ?_
  · (try dsimp only at hSw)
    go_split_ands
    go_simp
  (try simp only [Act.put, k1, k2, k3])
  refine mpa 5 rfl (Value.pointer (some ⟨B, 0, none⟩)) (fun w => ?_) ?_
  · go_simp
  (try simp only [Act.put, k1, k2, k3])
  refine mpa 6 rfl (Value.pointer (some ⟨B, 0, none⟩)) (fun w => ?_) ?_
  · go_simp
  (try simp only [Act.put, k1, k2, k3])
  refine mpa 7 rfl (.pointer (some ⟨B, 4, none⟩)) (fun w => ?_) ?_
  · go_simp
  (try simp only [Act.put, k1, k2, k3])
  refine mpa 8 rfl (.pointer (some ⟨B, 5, none⟩)) (fun w => ?_) ?_
  · go_simp
  (try simp only [Act.put, k1, k2, k3])
  refine mpt 9 rfl (.int .i64 (ln)) (fun w hSw => ?_) ?_
  · (try dsimp only at hSw)
    go_split_ands
    go_simp
  (try simp only [Act.put, k1, k2, k3])
  refine mpc 10 rfl (by kernel_rfl) (by rfl) (fun K hK => ?_)
  go_simp
  refine hK.out _ _ (.inl (by kernel_rfl)) ?_
  clear hK K
  (try simp only [Act.put, k1, k2, k3])
  refine wpAnyP_done (by kernel_rfl) ?_ _
  clear hHeld
  have hln := HH.out
  clear HH
  rw [H2.out] at hln
  rcases hln with rfl
  all_goals
    go_wp2_with fail
    have hc := wkeep_make B p A cp nv r 5 _ HP1.out HL.out
    rw [← HT.out] at hc
    refine hc.mono ?_
    rintro e w3 ⟨caps, rfl, hO, hC⟩
    have HO3 := Lib.hid (HO1.out.trans hO)
    have HC3 := Lib.hid hC
    clear hO hC hc
    go_wp2
    go_ret
    exact ⟨caps, rfl, HO3.out, HC3.out⟩
end Go.Proofs.YtocdbeonogfopaaGreat
set_option linter.unusedVariables false
set_option linter.unusedSimpArgs false
namespace Go.Proofs.YtocdbeonogfopaaGreat
open Go.RowKit
theorem get_bits2 (v : Int) : getI v 0 2 = bitsI v := by
  show v / pw 0 % pw 2 = v % 4
  rw [show pw 0 = 1 from rfl, show pw 2 = 4 from rfl, Int.ediv_one]
theorem bits_any (v : Int) (w : World) (hv : 0 ≤ v ∧ v < 4294967296) :
    Calls Tryz.prog 124 #[.int .u32 v] w fun e w' => e = .returned (.int .u32 (bitsI v)) ∧ Drew w w' := by
  have HV := Lib.hid hv
  clear hv
  go_enter Tryz.func124, Tryz.ntmps124
  go_wp2_with fail
  refine (get_any v 0 2 _ HV.out).mono ?_
  rw [get_bits2]
  rintro e w1 ⟨rfl, hd⟩
  have HD := Lib.hid hd
  clear hd
  go_wp2
  go_ret
  exact ⟨rfl, HD.out⟩
theorem bits_quiet (v : Int) (w : World) (k : Nat) (hv : 0 ≤ v ∧ v < 4294967296) :
    Calls Tryz.prog 124 #[.int .u32 v] (w.drewN k) fun e w' => e = .returned (.int .u32 (bitsI v)) ∧ ∃ m, w' = w.drewN m :=
  (bits_any v _ hv).mono fun _ _ ⟨he, hm⟩ => ⟨he, hm.quiet⟩
theorem depart_run (B : Nat) (p A : Option Addr) (cp : Nat) (nv : Value) (r : LS) (w : World) (h : RunP w B p A cp nv r) (hl : r.ns.length ≤ 900) (hx : Words r.xs) : Calls Tryz.prog 84 #[Value.pointer (some ⟨B, 0, none⟩)] w (Done B p A cp w (.tuple #[]) r.pDepart) := by
  have HP0 := Lib.hid h
  have HL := Lib.hid hl
  have HX := Lib.hid hx
  have HO0 := Lib.hid (Only.refl (TurnB B A) w)
  clear h hl hx
  go_enter Tryz.func84, Tryz.ntmps84
  go_wp2_with fail
  refine (add_run B p A cp nv r 1 256 _ HP0.out).mono ?_
  rintro e w1 ⟨rfl, hO, nv1, hP⟩
  have HO1 := Lib.hid (HO0.out.trans hO)
  have HP1 := Lib.hid hP
  clear hO hP HP0 HO0
  go_wp2_with fail
  refine (note_run B p A cp nv1 _ 6 0 _ HP1.out (show (r.doA 3 1 256 0).ns.length ≤ 1000 from Nat.le_trans HL.out (by decide))).mono ?_
  rintro e w2 ⟨rfl, hO, nv2, hP⟩
  have HO2 := Lib.hid (HO1.out.trans hO)
  have HP2 := Lib.hid hP
  clear hO hP HP1 HO1
  go_wp2_with fail
  refine (wake_run B p A cp nv2 _ 1 _ HP2.out).mono ?_
  rintro e w3 ⟨rfl, hO, nv3, hP⟩
  have HO3 := Lib.hid (HO2.out.trans hO)
  have HP3 := Lib.hid hP
  clear hO hP HP2 HO2
  go_wp2_with fail
  refine (end_run B p A cp nv3 _ _ true HP3.out).mono ?_
  rintro e w9 ⟨rfl, hO, nv9, hP⟩
  have HO9 := Lib.hid (HO3.out.trans hO)
  have HP9 := Lib.hid hP
  clear hO hP
  go_wp2
  go_returns
  exact ⟨rfl, HO9.out, nv9, HP9.out⟩
theorem come_run (B : Nat) (p A : Option Addr) (cp : Nat) (nv : Value) (r : LS) (w : World) (h : RunP w B p A cp nv r) (hl : r.ns.length ≤ 900) (hx : Words r.xs) : Calls Tryz.prog 82 #[Value.pointer (some ⟨B, 0, none⟩)] w (Done B p A cp w (.tuple #[]) r.pCome) := by
  by_cases hb : bitsI (wordAt r.xs 0) = 0
  · rw [show r.pCome = ((((r.doA 3 0 256 0).keepA (wordAt r.xs 0)).note 2 1).note 4 0).fin true by unfold LS.pCome; rw [if_pos hb]]
    have HB := Lib.hid hb
    clear hb
    have HP0 := Lib.hid h
    have HL := Lib.hid hl
    have HX := Lib.hid hx
    have HO0 := Lib.hid (Only.refl (TurnB B A) w)
    clear h hl hx
    go_enter Tryz.func82, Tryz.ntmps82
    go_wp2_with fail
    refine (add_run B p A cp nv r 0 256 _ HP0.out).mono ?_
    rintro e w1 ⟨rfl, hO, nv1, hP⟩
    have HO1 := Lib.hid (HO0.out.trans hO)
    have HP1 := Lib.hid hP
    clear hO hP HP0 HO0
    have c6 : w1.cell? ⟨B, 6, none⟩ = some (.int .u32 r.a) := HP1.out.row.cell_ (i := 6) rfl
    have f6 : w1.frozen? ⟨B, 6, none⟩ = false := HP1.out.row.frozen 6
    have HP2 := Lib.hid (HP1.out.setA (wordAt r.xs 0))
    have HO2 := Lib.hid (HO1.out.setCell (p := ⟨B, 6, none⟩) (.inr (.inl rfl)) (.int .u32 (wordAt r.xs 0)))
    clear HP1 HO1
    go_wp2_with fail
    refine (note_run B p A cp nv1 _ 2 1 _ HP2.out (show (r.doA 3 0 256 0).ns.length ≤ 1000 from Nat.le_trans HL.out (by decide))).mono ?_
    rintro e w3 ⟨rfl, hO, nv3, hP⟩
    have HO3 := Lib.hid (HO2.out.trans hO)
    have HP3 := Lib.hid hP
    clear hO hP HP2 HO2
    have d6 : w3.cell? ⟨B, 6, none⟩ = some (.int .u32 (wordAt r.xs 0)) := HP3.out.row.cell_ (i := 6) rfl
    go_wp2_with fail
    clear d6
    refine (bits_any (wordAt r.xs 0) _ (word_wf HX.out 0)).mono ?_
    rw [HB.out]
    rintro e w4 ⟨rfl, hd⟩
    have HP4 := Lib.hid (HP3.out.keep hd.only)
    have HO4 : Hid (Only (TurnB B A) w w4) := Lib.hid (HO3.out.trans hd.only)
    clear hd HP3 HO3
    go_wp2_with fail
    refine (note_run B p A cp nv3 _ 4 0 _ HP4.out (by have := HL.out; simp only [LS.note, LS.doA, LS.keepA, List.length_append, List.length_cons, List.length_nil]; omega)).mono ?_
    rintro e w5 ⟨rfl, hO, nv5, hP⟩
    have HO5 := Lib.hid (HO4.out.trans hO)
    have HP5 := Lib.hid hP
    clear hO hP HP4 HO4
    go_wp2_with fail
    refine (end_run B p A cp nv5 _ _ true HP5.out).mono ?_
    rintro e w9 ⟨rfl, hO, nv9, hP⟩
    have HO9 := Lib.hid (HO5.out.trans hO)
    have HP9 := Lib.hid hP
    clear hO hP
    go_wp2
    go_returns
    exact ⟨rfl, HO9.out, nv9, HP9.out⟩
  · rw [show r.pCome = (((r.doA 3 0 256 0).keepA (wordAt r.xs 0)).note 2 1).go 1 by unfold LS.pCome; rw [if_neg hb]]
    generalize hbb : bitsI (wordAt r.xs 0) = b at *
    have HB := Lib.hid hbb
    have hb0 : (b == 0) = false := by simpa using hb
    clear hbb
    have HP0 := Lib.hid h
    have HL := Lib.hid hl
    have HX := Lib.hid hx
    have HO0 := Lib.hid (Only.refl (TurnB B A) w)
    clear h hl hx
    go_enter Tryz.func82, Tryz.ntmps82
    go_wp2_with fail
    refine (add_run B p A cp nv r 0 256 _ HP0.out).mono ?_
    rintro e w1 ⟨rfl, hO, nv1, hP⟩
    have HO1 := Lib.hid (HO0.out.trans hO)
    have HP1 := Lib.hid hP
    clear hO hP HP0 HO0
    have c6 : w1.cell? ⟨B, 6, none⟩ = some (.int .u32 r.a) := HP1.out.row.cell_ (i := 6) rfl
    have f6 : w1.frozen? ⟨B, 6, none⟩ = false := HP1.out.row.frozen 6
    have HP2 := Lib.hid (HP1.out.setA (wordAt r.xs 0))
    have HO2 := Lib.hid (HO1.out.setCell (p := ⟨B, 6, none⟩) (.inr (.inl rfl)) (.int .u32 (wordAt r.xs 0)))
    clear HP1 HO1
    go_wp2_with fail
    refine (note_run B p A cp nv1 _ 2 1 _ HP2.out (show (r.doA 3 0 256 0).ns.length ≤ 1000 from Nat.le_trans HL.out (by decide))).mono ?_
    rintro e w3 ⟨rfl, hO, nv3, hP⟩
    have HO3 := Lib.hid (HO2.out.trans hO)
    have HP3 := Lib.hid hP
    clear hO hP HP2 HO2
    have d6 : w3.cell? ⟨B, 6, none⟩ = some (.int .u32 (wordAt r.xs 0)) := HP3.out.row.cell_ (i := 6) rfl
    go_wp2_with fail
    clear d6
    refine (bits_any (wordAt r.xs 0) _ (word_wf HX.out 0)).mono ?_
    rw [HB.out]
    rintro e w4 ⟨rfl, hd⟩
    have HP4 := Lib.hid (HP3.out.keep hd.only)
    have HO4 : Hid (Only (TurnB B A) w w4) := Lib.hid (HO3.out.trans hd.only)
    clear hd HP3 HO3
    go_wp2_with fail
    refine (go_run B p A cp nv3 _ 1 _ HP4.out).mono ?_
    rintro e w9 ⟨rfl, hO, nv9, hP⟩
    have HO9 := Lib.hid (HO4.out.trans hO)
    have HP9 := Lib.hid hP
    clear hO hP
    go_wp2
    go_returns
    exact ⟨rfl, HO9.out, nv9, HP9.out⟩
theorem lookIn_run (B : Nat) (p A : Option Addr) (cp : Nat) (nv : Value) (r : LS) (w : World) (h : RunP w B p A cp nv r) (hl : r.ns.length ≤ 900) (hx : Words r.xs) : Calls Tryz.prog 93 #[Value.pointer (some ⟨B, 0, none⟩)] w (Done B p A cp w (.tuple #[]) r.pLookIn) := by
  by_cases hb : bitsI (wordAt r.xs 0) = 0
  · rw [show r.pLookIn = ((r.doA 1 0 0 0).keepA (wordAt r.xs 0)).go 1 by unfold LS.pLookIn; rw [if_pos hb]]
    have HB := Lib.hid hb
    clear hb
    have HP0 := Lib.hid h
    have HL := Lib.hid hl
    have HX := Lib.hid hx
    have HO0 := Lib.hid (Only.refl (TurnB B A) w)
    clear h hl hx
    go_enter Tryz.func93, Tryz.ntmps93
    go_wp2_with fail
    refine (load_run B p A cp nv r 0 _ HP0.out).mono ?_
    rintro e w1 ⟨rfl, hO, nv1, hP⟩
    have HO1 := Lib.hid (HO0.out.trans hO)
    have HP1 := Lib.hid hP
    clear hO hP HP0 HO0
    have c6 : w1.cell? ⟨B, 6, none⟩ = some (.int .u32 r.a) := HP1.out.row.cell_ (i := 6) rfl
    have f6 : w1.frozen? ⟨B, 6, none⟩ = false := HP1.out.row.frozen 6
    have HP2 := Lib.hid (HP1.out.setA (wordAt r.xs 0))
    have HO2 := Lib.hid (HO1.out.setCell (p := ⟨B, 6, none⟩) (.inr (.inl rfl)) (.int .u32 (wordAt r.xs 0)))
    clear HP1 HO1
    have d6 := HP2.out.row.cell_ (i := 6) rfl
    go_wp2_with fail
    clear d6
    refine (bits_any (wordAt r.xs 0) _ (word_wf HX.out 0)).mono ?_
    rw [HB.out]
    rintro e w4 ⟨rfl, hd⟩
    have HP4 := Lib.hid (HP2.out.keep hd.only)
    have HO4 : Hid (Only (TurnB B A) w w4) := Lib.hid (HO2.out.trans hd.only)
    clear hd HP2 HO2
    go_wp2_with fail
    refine (go_run B p A cp nv1 _ 1 _ HP4.out).mono ?_
    rintro e w9 ⟨rfl, hO, nv9, hP⟩
    have HO9 := Lib.hid (HO4.out.trans hO)
    have HP9 := Lib.hid hP
    clear hO hP
    go_wp2
    go_returns
    exact ⟨rfl, HO9.out, nv9, HP9.out⟩
  · rw [show r.pLookIn = (((r.doA 1 0 0 0).keepA (wordAt r.xs 0)).note 5 0).fin false by unfold LS.pLookIn; rw [if_neg hb]]
    generalize hbb : bitsI (wordAt r.xs 0) = b at *
    have HB := Lib.hid hbb
    have hb0 : (b == 0) = false := by simpa using hb
    clear hbb
    have HP0 := Lib.hid h
    have HL := Lib.hid hl
    have HX := Lib.hid hx
    have HO0 := Lib.hid (Only.refl (TurnB B A) w)
    clear h hl hx
    go_enter Tryz.func93, Tryz.ntmps93
    go_wp2_with fail
    refine (load_run B p A cp nv r 0 _ HP0.out).mono ?_
    rintro e w1 ⟨rfl, hO, nv1, hP⟩
    have HO1 := Lib.hid (HO0.out.trans hO)
    have HP1 := Lib.hid hP
    clear hO hP HP0 HO0
    have c6 : w1.cell? ⟨B, 6, none⟩ = some (.int .u32 r.a) := HP1.out.row.cell_ (i := 6) rfl
    have f6 : w1.frozen? ⟨B, 6, none⟩ = false := HP1.out.row.frozen 6
    have HP2 := Lib.hid (HP1.out.setA (wordAt r.xs 0))
    have HO2 := Lib.hid (HO1.out.setCell (p := ⟨B, 6, none⟩) (.inr (.inl rfl)) (.int .u32 (wordAt r.xs 0)))
    clear HP1 HO1
    have d6 := HP2.out.row.cell_ (i := 6) rfl
    go_wp2_with fail
    clear d6
    refine (bits_any (wordAt r.xs 0) _ (word_wf HX.out 0)).mono ?_
    rw [HB.out]
    rintro e w4 ⟨rfl, hd⟩
    have HP4 := Lib.hid (HP2.out.keep hd.only)
    have HO4 : Hid (Only (TurnB B A) w w4) := Lib.hid (HO2.out.trans hd.only)
    clear hd HP2 HO2
    go_wp2_with fail
    refine (note_run B p A cp nv1 _ 5 0 _ HP4.out (show (r.doA 1 0 0 0).ns.length ≤ 1000 from Nat.le_trans HL.out (by decide))).mono ?_
    rintro e w5 ⟨rfl, hO, nv5, hP⟩
    have HO5 := Lib.hid (HO4.out.trans hO)
    have HP5 := Lib.hid hP
    clear hO hP HP4 HO4
    go_wp2_with fail
    refine (end_run B p A cp nv5 _ _ false HP5.out).mono ?_
    rintro e w9 ⟨rfl, hO, nv9, hP⟩
    have HO9 := Lib.hid (HO5.out.trans hO)
    have HP9 := Lib.hid hP
    clear hO hP
    go_wp2
    go_returns
    exact ⟨rfl, HO9.out, nv9, HP9.out⟩
end Go.Proofs.YtocdbeonogfopaaGreat
