/- PqC, PqW. -/
import Derived.Test.YtigdbokfapedcaaGreatB13
import Derived.Test.YtigdbokfapedcaaGreatB3
import Derived.Test.YtigdbokfapedcaaGreatB14
import Derived.Test.YtigdbokfapedcaaGreatB15
/- pq's lines, the program's: the closures that a step is made of; those that wait for nothing. -/
set_option linter.unusedVariables false
set_option linter.unusedSimpArgs false
namespace Go.Proofs.YtigdbokfapedcaaGreat
open Go.RowKit
theorem pq_aside_b : Aside 4 := ⟨by decide, by decide, by decide⟩
theorem wget_bit1 (v : Int) : getI v 0 1 = v % 2 := by
  show v / pw 0 % pw 1 = v % 2
  rw [show pw 0 = 1 from rfl, show pw 1 = 2 from rfl, Int.ediv_one]
theorem wpres_any (v : Int) (w : World) (hv : 0 ≤ v ∧ v < 4294967296) :
    Calls Tryz.prog 201 #[.int .u32 v] w fun e w' => e = .returned (.int .u32 (presI v)) ∧ Drew w w' := by
  have HV := Lib.hid hv
  clear hv
  go_enter Tryz.func201, Tryz.ntmps201
  go_wp2_with fail
  refine (get_any v 0 1 _ HV.out).mono ?_
  rw [wget_bit1]
  generalize hb : v % 2 = b
  have hb2 : 0 ≤ b ∧ b < 2 := by omega
  have HB := Lib.hid (show presI v = 2 + b by unfold presI; rw [hb])
  clear hb
  rintro e w1 ⟨rfl, hd⟩
  have HD := Lib.hid hd
  clear hd
  go_wp2
  go_ret
  refine ⟨congrArg (fun x => Ending.returned (.int .u32 x)) ?_, HD.out⟩
  rw [HB.out]

theorem wEnter_of {r r' : LS} {d : Bool} (h : r.mxEnter 2 2 = (r', d)) : r.wEnter = if d then r'.go 5 else r' := by unfold LS.wEnter; rw [h]
theorem wGive_of {r r' : LS} {a : Int} {ok : Bool} {d : Bool} (h : r.mxGive 2 a [8] = (r', d)) : r.wGive a ok = if d then r'.fin ok else r' := by unfold LS.wGive; rw [h]
theorem wTry_of {r r' : LS} {d i : Bool} (h : r.mxTry 2 0 = (r', d, i)) : r.wTry = if d then (if i then (r'.note 2 2).go 2 else (r'.note 5 0).fin false) else r' := by unfold LS.wTry; rw [h]
theorem wtry_done {r : LS} (h : (r.mxTry 2 0).2.1 = false) : (r.mxTry 2 0).2.2 = false := by
  unfold LS.mxTry at h ⊢
  by_cases l0 : r.line = 0
  · rw [if_pos l0]
  by_cases l1 : r.line = 0 + 1
  · rw [if_neg l0, if_pos l1] at h; cases h
  · rw [if_neg l0, if_neg l1]
theorem wtry_ns (r : LS) : (r.mxTry 2 0).1.ns = r.ns := by unfold LS.mxTry; (repeat' split) <;> rfl

section
variable {B g0 g1 g2 : Nat} {p A : Option Addr} {cp : Nat} {nv : Value} {r : LS} {w : World}
-- a reader's line
theorem read_make (r' : LS) (h : RunP w B p A cp nv r) (hl : r.ns.length ≤ 900) (hc : ∀ w' nv, RunP w' B p A cp nv r → Calls Tryz.prog 26 #[Value.pointer (some ⟨B, 0, none⟩)] w' (Done B p A cp w' (.tuple #[]) r')) :
    Calls Tryz.prog 117 #[Value.pointer (some ⟨B, 0, none⟩)] w (Clo 196 B p A cp r' w) := by
  have hclo : ∀ {g0 : Nat} {w : World} (S : St w B p A cp [(g0, 99, #[Value.pointer (some ⟨B, 0, none⟩)])] 900 r w), Calls Tryz.prog 196 #[.pointer (some ⟨g0, 0, none⟩)] w (Done B p A cp w (.tuple #[]) r') := by
    intro g0 w S
    have HC := Lib.hid (hc w)
    have b0 := S.c0
    clear hc
    go_enter Tryz.func196, Tryz.ntmps196
    go_wp2_with fail
    refine S.call0 HC.out (Nat.le_refl _) fun w S b0 => ?_
    go_wp2
    go_returns
    exact S.done
  obtain ⟨e, S⟩ := mk1 h hl
  have HC := Lib.hid (hclo S)
  clear S h hl hc hclo
  go_enter Tryz.func117, Tryz.ntmps117
  go_wp2
  go_ret
  exact ⟨_, rfl, e, HC.out⟩

-- entering the queue
theorem wenter_clo (S : St w B p A cp [(g0, 99, #[Value.pointer (some ⟨B, 0, none⟩)])] 900 r w) (hx : Words r.xs) (ha : 0 ≤ r.a ∧ r.a < 4294967296) : Calls Tryz.prog 197 #[.pointer (some ⟨g0, 0, none⟩)] w (Done B p A cp w (.tuple #[]) r.wEnter) := by
  obtain ⟨r', d, hd⟩ : ∃ r' d, r.mxEnter 2 2 = (r', d) := ⟨_, _, rfl⟩
  have hc := fun nv h => enter_run B p A cp nv r 2 2 w h S.len hx ha
  rw [hd] at hc
  have HC := Lib.hid hc
  have H := Lib.hid (wEnter_of hd)
  have b0 := S.c0
  clear hc hd hx ha
  cases d
  all_goals (go_enter Tryz.func197, Tryz.ntmps197)
  · go_wp2_with fail
    refine S.call0 HC.out (Nat.le_refl _) fun w S b0 => ?_
    go_wp2
    go_returns
    exact S.fit (by rw [H.out]; rfl)
  · go_wp2_with fail
    refine S.call0 HC.out (Nat.le_refl _) fun w S b0 => ?_
    go_wp2_with fail
    refine sGo S fun w S b0 => ?_
    go_wp2
    go_returns
    exact S.fit (by rw [H.out]; rfl)
theorem wenter_make (h : RunP w B p A cp nv r) (hl : r.ns.length ≤ 900) (hx : Words r.xs) (ha : 0 ≤ r.a ∧ r.a < 4294967296) : Calls Tryz.prog 118 #[Value.pointer (some ⟨B, 0, none⟩)] w (Clo 197 B p A cp r.wEnter w) := by
  obtain ⟨e, S⟩ := mk1 h hl
  have HC := Lib.hid (wenter_clo S hx ha)
  clear S h hl hx ha
  go_enter Tryz.func118, Tryz.ntmps118
  go_wp2
  go_ret
  exact ⟨_, rfl, e, HC.out⟩

-- giving on
theorem wgive_clo (a : Int) (ok : Bool) (S : St w B p A cp [(g0, 99, #[Value.pointer (some ⟨B, 0, none⟩)]), (g1, 3, #[.int .i64 a]), (g2, 4, #[.bool ok])] 900 r w) (hx : Words r.xs) (ha : 0 ≤ r.a ∧ r.a < 4294967296) (hr0 : -1000 ≤ a) (hr1 : a ≤ 1000) :
    Calls Tryz.prog 206 #[.pointer (some ⟨g0, 0, none⟩), .pointer (some ⟨g1, 0, none⟩), .pointer (some ⟨g2, 0, none⟩)] w (Done B p A cp w (.tuple #[]) (r.wGive a ok)) := by
  have e0 := (Only.refl Nil w).alloc (.cells #[.int .i64 8] 3)
  obtain ⟨r', d, hd⟩ : ∃ r' d, r.mxGive 2 a [8] = (r', d) := ⟨_, _, rfl⟩
  obtain ⟨nv0, h0⟩ := S.run
  have hc := fun nv h => give_run B p A cp nv r 2 a (w.alloc (.cells #[.int .i64 8] 3)) h S.len hx ha _ [8] (whats_1 h0 8) (by decide) hr0 hr1
  rw [hd] at hc
  have HC := Lib.hid hc
  have H := Lib.hid (wGive_of (ok := ok) hd)
  have S8 := S.keep e0
  have b0 := S.c0
  have b1 := S.rows.c1
  clear hc hd hx ha hr0 hr1 e0 h0 S
  cases d
  all_goals (go_enter Tryz.func206, Tryz.ntmps206)
  · go_wp2_with fail
    refine S8.call0 HC.out (Nat.le_refl _) fun w S b0 => ?_
    go_wp2
    go_returns
    exact S.fit (by rw [H.out]; rfl)
  · go_wp2_with fail
    refine S8.call0 HC.out (Nat.le_refl _) fun w S b0 => ?_
    have b2 := S.rows.c2
    go_wp2_with fail
    refine sEnd S fun w S b0 => ?_
    go_wp2
    go_returns
    exact S.fit (by rw [H.out]; rfl)
theorem wgive_make (a : Int) (ok : Bool) (h : RunP w B p A cp nv r) (hl : r.ns.length ≤ 900) (hx : Words r.xs) (ha : 0 ≤ r.a ∧ r.a < 4294967296) (hr0 : -1000 ≤ a) (hr1 : a ≤ 1000) : Calls Tryz.prog 124 #[Value.pointer (some ⟨B, 0, none⟩), .int .i64 a, .bool ok] w (Clo 206 B p A cp (r.wGive a ok) w) := by
  obtain ⟨e, S⟩ := mk3 h hl aside_i pq_aside_b
  have HC := Lib.hid (wgive_clo a ok S hx ha hr0 hr1)
  clear S h hl hx ha hr0 hr1
  go_enter Tryz.func124, Tryz.ntmps124
  go_wp2
  go_ret
  exact ⟨_, rfl, e, HC.out⟩

-- a try
theorem wtry_clo (S : St w B p A cp [(g0, 99, #[Value.pointer (some ⟨B, 0, none⟩)])] 900 r w) (hx : Words r.xs) (ha : 0 ≤ r.a ∧ r.a < 4294967296) : Calls Tryz.prog 263 #[.pointer (some ⟨g0, 0, none⟩)] w (Done B p A cp w (.tuple #[]) r.wTry) := by
  have hg : (r.mxTry 2 0).1.ns.length ≤ 900 := by rw [wtry_ns]; exact S.len
  have hdi := wtry_done (r := r)
  obtain ⟨r', d, i, hd⟩ : ∃ r' d i, r.mxTry 2 0 = (r', d, i) := ⟨_, _, _, rfl⟩
  have hc := fun nv h => try_run B p A cp nv r 2 0 w h S.len hx ha (by decide) (by decide)
  rw [hd] at hc hdi hg
  have HC := Lib.hid hc
  have HG := Lib.hid (show r'.ns.length ≤ 900 from hg)
  have H := Lib.hid (wTry_of hd)
  have b0 := S.c0
  clear hc hd hx ha hg
  cases d
  · have hi : i = false := hdi rfl
    subst hi
    clear hdi
    go_enter Tryz.func263, Tryz.ntmps263
    go_wp2_with fail
    refine S.call0 HC.out HG.out fun w S b0 => ?_
    go_wp2
    go_returns
    exact S.fit (by rw [H.out]; rfl)
  · cases i
    · skip
      clear hdi
      go_enter Tryz.func263, Tryz.ntmps263
      go_wp2_with fail
      refine S.call0 HC.out HG.out fun w S b0 => ?_
      go_wp2_with fail
      refine sNote S fun w S b0 => ?_
      go_wp2_with fail
      refine sEnd S fun w S b0 => ?_
      go_wp2
      go_returns
      exact S.fit (by rw [H.out]; rfl)
    · skip
      clear hdi
      go_enter Tryz.func263, Tryz.ntmps263
      go_wp2_with fail
      refine S.call0 HC.out HG.out fun w S b0 => ?_
      go_wp2_with fail
      refine sNote S fun w S b0 => ?_
      go_wp2_with fail
      refine sGo S fun w S b0 => ?_
      go_wp2
      go_returns
      exact S.fit (by rw [H.out]; rfl)
theorem wtry_make (h : RunP w B p A cp nv r) (hl : r.ns.length ≤ 900) (hx : Words r.xs) (ha : 0 ≤ r.a ∧ r.a < 4294967296) : Calls Tryz.prog 208 #[Value.pointer (some ⟨B, 0, none⟩)] w (Clo 263 B p A cp r.wTry w) := by
  obtain ⟨e, S⟩ := mk1 h hl
  have HC := Lib.hid (wtry_clo S hx ha)
  clear S h hl hx ha
  go_enter Tryz.func208, Tryz.ntmps208
  go_wp2
  go_ret
  exact ⟨_, rfl, e, HC.out⟩

-- a load that is kept
set_option maxHeartbeats 1000000 in
theorem wkeep_clo (n : Int) (S : St w B p A cp [(g0, 99, #[Value.pointer (some ⟨B, 0, none⟩)]), (g1, 3, #[.int .i64 n])] 900 r w) : Calls Tryz.prog 199 #[.pointer (some ⟨g0, 0, none⟩), .pointer (some ⟨g1, 0, none⟩)] w (Done B p A cp w (.tuple #[]) (r.wKeep n)) := by
  have b0 := S.c0
  go_enter Tryz.func199, Tryz.ntmps199
  go_upto_region 0 with (fail)
  refine wp_region_phase (n := 7) 6 (fun w => w.cell? ⟨g0, 0, none⟩ = some (Value.pointer (some ⟨B, 0, none⟩))) rfl (by kernel_rfl) b0 (fun hHeld => ?_)
  replace S := S.drew
  clear b0
  generalize w.drew = w1 at *
  refine zt 0 rfl ?_
  refine zt 1 rfl ?_
  refine mpc 2 rfl (by kernel_rfl) (by rfl) (fun K hK => ?_)
  go_simp
  refine sLoad S fun w2 S b0 => ?_
  refine hK.out _ _ (.inr b0) ?_
  clear hK K hHeld
  refine za 3 rfl ?_
  refine za 4 rfl ?_
  refine za 5 rfl ?_
  have c7 := S.c7
  have f7 := S.froz 7
  refine mpc 6 rfl (by kernel_rfl) (by rfl) (fun K hK => ?_)
  go_simp
  refine hK.out _ _ (.inl (by kernel_rfl)) ?_
  clear hK K c7 f7 b0
  replace S := S.setB (wordAt r.xs 3)
  generalize w2.setCell ⟨B, 7, none⟩ (.int .u32 (wordAt r.xs 3)) = w3 at *
  refine wpAnyP_done (by kernel_rfl) ?_ _
  have b0 := S.c0
  have b1 := S.rows.c1
  go_wp2_with fail
  refine sGo S fun w S b0 => ?_
  go_wp2
  go_returns
  exact S.done
theorem wkeep_make (n : Int) (h : RunP w B p A cp nv r) (hl : r.ns.length ≤ 900) : Calls Tryz.prog 119 #[Value.pointer (some ⟨B, 0, none⟩), .int .i64 n] w (Clo 199 B p A cp (r.wKeep n) w) := by
  obtain ⟨e, S⟩ := mk2 h hl aside_i
  have HC := Lib.hid (wkeep_clo n S)
  clear S h hl 
  go_enter Tryz.func119, Tryz.ntmps119
  go_wp2
  go_ret
  exact ⟨_, rfl, e, HC.out⟩
set_option maxHeartbeats 1000000 in
theorem wcom_clo (S : St w B p A cp [(g0, 99, #[Value.pointer (some ⟨B, 0, none⟩)])] 900 r w) : Calls Tryz.prog 264 #[.pointer (some ⟨g0, 0, none⟩)] w (Done B p A cp w (.tuple #[]) (r.pLook 0 3)) := by
  have b0 := S.c0
  go_enter Tryz.func264, Tryz.ntmps264
  go_upto_region 0 with (fail)
  refine wp_region_phase (n := 7) 6 (fun w => w.cell? ⟨g0, 0, none⟩ = some (Value.pointer (some ⟨B, 0, none⟩))) rfl (by kernel_rfl) b0 (fun hHeld => ?_)
  replace S := S.drew
  clear b0
  generalize w.drew = w1 at *
  refine zt 0 rfl ?_
  refine zt 1 rfl ?_
  refine mpc 2 rfl (by kernel_rfl) (by rfl) (fun K hK => ?_)
  go_simp
  refine sLoad S fun w2 S b0 => ?_
  refine hK.out _ _ (.inr b0) ?_
  clear hK K hHeld
  refine za 3 rfl ?_
  refine za 4 rfl ?_
  refine za 5 rfl ?_
  have c6 := S.c6
  have f6 := S.froz 6
  refine mpc 6 rfl (by kernel_rfl) (by rfl) (fun K hK => ?_)
  go_simp
  refine hK.out _ _ (.inl (by kernel_rfl)) ?_
  clear hK K c6 f6 b0
  replace S := S.setA (wordAt r.xs 0)
  generalize w2.setCell ⟨B, 6, none⟩ (.int .u32 (wordAt r.xs 0)) = w3 at *
  refine wpAnyP_done (by kernel_rfl) ?_ _
  have b0 := S.c0
  go_wp2_with fail
  refine sGo S fun w S b0 => ?_
  go_wp2
  go_returns
  exact S.done
theorem wcom_make (h : RunP w B p A cp nv r) (hl : r.ns.length ≤ 900) : Calls Tryz.prog 209 #[Value.pointer (some ⟨B, 0, none⟩)] w (Clo 264 B p A cp (r.pLook 0 3) w) := by
  obtain ⟨e, S⟩ := mk1 h hl
  have HC := Lib.hid (wcom_clo S)
  clear S h hl 
  go_enter Tryz.func209, Tryz.ntmps209
  go_wp2
  go_ret
  exact ⟨_, rfl, e, HC.out⟩

-- coming and going
set_option maxHeartbeats 1000000 in
theorem wapp_clo (n : Int) (S : St w B p A cp [(g0, 99, #[Value.pointer (some ⟨B, 0, none⟩)]), (g1, 3, #[.int .i64 n])] 900 r w) (hbb : 0 ≤ r.b ∧ r.b < 4294967296) : Calls Tryz.prog 200 #[.pointer (some ⟨g0, 0, none⟩), .pointer (some ⟨g1, 0, none⟩)] w (Done B p A cp w (.tuple #[]) (r.pAppear n)) := by
  have HBB := Lib.hid hbb
  have b0 := S.c0
  clear hbb
  go_enter Tryz.func200, Tryz.ntmps200
  go_upto_region 0 with (fail)
  refine wp_region_phase (n := 13) 12 (fun w => w.cell? ⟨g0, 0, none⟩ = some (Value.pointer (some ⟨B, 0, none⟩)) ∧ w.cell? ⟨B, 7, none⟩ = some (.int .u32 r.b)) rfl (by kernel_rfl) ⟨b0, S.c7⟩ (fun hHeld => ?_)
  replace S := S.drew
  clear b0
  generalize w.drew = w1 at *
  refine zt 0 rfl ?_
  refine zt 1 rfl ?_
  refine zt 2 rfl ?_
  refine za 3 rfl ?_
  refine za 4 rfl ?_
  refine za 5 rfl ?_
  refine zt 6 rfl ?_
  refine mpc 7 rfl (by kernel_rfl) (by rfl) (fun K hK => ?_)
  go_simp
  refine (wpres_any r.b _ HBB.out).mono ?_
  rintro e w2 ⟨rfl, hd⟩
  replace S := S.drewd hd
  clear hd
  have h2 : w2.cell? ⟨g0, 0, none⟩ = some (Value.pointer (some ⟨B, 0, none⟩)) ∧ w2.cell? ⟨B, 7, none⟩ = some (.int .u32 r.b) := ⟨S.c0, S.c7⟩
  refine hK.out _ _ (.inr h2) ?_
  clear hK K hHeld
  refine mpc 8 rfl (by kernel_rfl) (by rfl) (fun K hK => ?_)
  go_simp
  refine sAdd S fun w3 S b0 => ?_
  have h3 : w3.cell? ⟨g0, 0, none⟩ = some (Value.pointer (some ⟨B, 0, none⟩)) ∧ w3.cell? ⟨B, 7, none⟩ = some (.int .u32 r.b) := ⟨b0, S.c7⟩
  refine hK.out _ _ (.inr h3) ?_
  clear hK K h2
  refine za 9 rfl ?_
  refine za 10 rfl ?_
  refine za 11 rfl ?_
  have c6 := S.c6
  have f6 := S.froz 6
  refine mpc 12 rfl (by kernel_rfl) (by rfl) (fun K hK => ?_)
  go_simp
  refine hK.out _ _ (.inl (by kernel_rfl)) ?_
  clear hK K c6 f6 b0 h3
  replace S := S.setA (wordAt r.xs 0)
  generalize w3.setCell ⟨B, 6, none⟩ (.int .u32 (wordAt r.xs 0)) = w4 at *
  refine wpAnyP_done (by kernel_rfl) ?_ _
  have b0 := S.c0
  go_wp2_with fail
  refine sNote S fun w S b0 => ?_
  have b1 := S.rows.c1
  go_wp2_with fail
  refine sGo S fun w S b0 => ?_
  go_wp2
  go_returns
  exact S.done
theorem wapp_make (n : Int) (h : RunP w B p A cp nv r) (hl : r.ns.length ≤ 900) (hbb : 0 ≤ r.b ∧ r.b < 4294967296) : Calls Tryz.prog 120 #[Value.pointer (some ⟨B, 0, none⟩), .int .i64 n] w (Clo 200 B p A cp (r.pAppear n) w) := by
  obtain ⟨e, S⟩ := mk2 h hl aside_i
  have HC := Lib.hid (wapp_clo n S hbb)
  clear S h hl hbb
  go_enter Tryz.func120, Tryz.ntmps120
  go_wp2
  go_ret
  exact ⟨_, rfl, e, HC.out⟩
set_option maxHeartbeats 1000000 in
theorem wvan_clo (inn what : Int) (S : St w B p A cp [(g0, 99, #[Value.pointer (some ⟨B, 0, none⟩)]), (g2, 3, #[.int .i64 what])] 900 r w) (hbb : 0 ≤ r.b ∧ r.b < 4294967296) (h1 : Row w g1 22 #[.int .u32 inn]) :
    Calls Tryz.prog 204 #[.pointer (some ⟨g0, 0, none⟩), .pointer (some ⟨g1, 0, none⟩), .pointer (some ⟨g2, 0, none⟩)] w (Done B p A cp w (.tuple #[]) (r.pVanish inn what)) := by
  have HBB := Lib.hid hbb
  have HW := Lib.hid h1
  have b0 := S.c0
  clear hbb h1
  have hw : IntKind.u32.wrap (inn - presI r.b) = (inn - presI r.b) % 4294967296 := rfl
  go_enter Tryz.func204, Tryz.ntmps204
  go_upto_region 0 with (fail)
  refine wp_region_phase (n := 10) 9 (fun w => w.cell? ⟨g0, 0, none⟩ = some (Value.pointer (some ⟨B, 0, none⟩)) ∧ w.cell? ⟨g1, 0, none⟩ = some (.int .u32 inn) ∧ w.cell? ⟨B, 7, none⟩ = some (.int .u32 r.b)) rfl (by kernel_rfl) ⟨b0, HW.out.one, S.c7⟩ (fun hHeld => ?_)
  replace S := S.drew
  have HW1 := Lib.hid HW.out.drew
  clear b0 HW
  generalize w.drew = w1 at *
  refine zt 0 rfl ?_
  refine zt 1 rfl ?_
  refine zt 2 rfl ?_
  refine za 3 rfl ?_
  refine za 4 rfl ?_
  refine za 5 rfl ?_
  refine zt 6 rfl ?_
  refine mpc 7 rfl (by kernel_rfl) (by rfl) (fun K hK => ?_)
  go_simp
  refine (wpres_any r.b _ HBB.out).mono ?_
  rintro e w2 ⟨rfl, hd⟩
  replace S := S.drewd hd
  have h2 : w2.cell? ⟨g0, 0, none⟩ = some (Value.pointer (some ⟨B, 0, none⟩)) ∧ w2.cell? ⟨g1, 0, none⟩ = some (.int .u32 inn) ∧ w2.cell? ⟨B, 7, none⟩ = some (.int .u32 r.b) := ⟨S.c0, (hd.row HW1.out).one, S.c7⟩
  refine hK.out _ _ (.inr h2) ?_
  clear hK K hHeld HW1 hd
  refine mpa 8 rfl (.int .u32 ((inn - presI r.b) % 4294967296)) (fun w => ?_) ?_
  · go_simp
  refine mpc 9 rfl (by kernel_rfl) (by rfl) (fun K hK => ?_)
  go_simp
  refine sAdd S fun w3 S b0 => ?_
  refine hK.out _ _ (.inl (by kernel_rfl)) ?_
  clear hK K h2 hw
  refine wpAnyP_done (by kernel_rfl) ?_ _
  have b2 := S.rows.c1
  go_wp2_with fail
  refine sNote S fun w S b0 => ?_
  go_wp2_with fail
  refine sWake S fun w S b0 => ?_
  go_wp2_with fail
  refine sGo S fun w S b0 => ?_
  go_wp2
  go_returns
  exact S.done
theorem wvan_make (inn what : Int) (h : RunP w B p A cp nv r) (hl : r.ns.length ≤ 900) (hbb : 0 ≤ r.b ∧ r.b < 4294967296) : Calls Tryz.prog 122 #[Value.pointer (some ⟨B, 0, none⟩), .int .u32 inn, .int .i64 what] w (Clo 204 B p A cp (r.pVanish inn what) w) := by
  have e0 := (((Only.refl Nil w).alloc (.cells #[Value.pointer (some ⟨B, 0, none⟩)] 99)).alloc (.cells #[.int .u32 inn] 22)).alloc (.cells #[.int .i64 what] 3)
  have HC := Lib.hid (wvan_clo inn what (st_new (h.keep e0) hl (((rows_nil _).cons (Row.at (k := w.heap.size + 1 + 1) (by simp))).cons (((Row.new w _ _).alloc _).alloc _)) (asides_cons aside_p (asides_cons aside_i asides_nil))) hbb ((Row.new2 w _ _ _).alloc _))
  have HE := Lib.hid e0
  clear h hl hbb e0
  go_enter Tryz.func122, Tryz.ntmps122
  go_wp2
  go_ret
  exact ⟨_, rfl, HE.out, HC.out⟩
set_option maxHeartbeats 1000000 in
theorem wcnt_clo (S : St w B p A cp [(g0, 99, #[Value.pointer (some ⟨B, 0, none⟩)])] 900 r w) : Calls Tryz.prog 205 #[.pointer (some ⟨g0, 0, none⟩)] w (Done B p A cp w (.tuple #[]) r.wCount) := by
  have b0 := S.c0
  have hw : IntKind.u32.wrap (r.b + 1) = (r.b + 1) % 4294967296 := rfl
  go_enter Tryz.func205, Tryz.ntmps205
  go_upto_region 0 with (fail)
  refine wp_region_phase (n := 8) 7 (fun w => w.cell? ⟨g0, 0, none⟩ = some (Value.pointer (some ⟨B, 0, none⟩)) ∧ w.cell? ⟨B, 7, none⟩ = some (.int .u32 r.b)) rfl (by kernel_rfl) ⟨b0, S.c7⟩ (fun hHeld => ?_)
  replace S := S.drew
  clear b0
  generalize w.drew = w1 at *
  refine zt 0 rfl ?_
  refine zt 1 rfl ?_
  refine za 2 rfl ?_
  refine za 3 rfl ?_
  refine za 4 rfl ?_
  refine zt 5 rfl ?_
  refine mpa 6 rfl (.int .u32 ((r.b + 1) % 4294967296)) (fun w => ?_) ?_
  · go_simp
  refine mpc 7 rfl (by kernel_rfl) (by rfl) (fun K hK => ?_)
  go_simp
  refine S.call0 (fun nv h => store_run B p A cp nv r 3 ((r.b + 1) % 4294967296) _ h) S.len fun w2 S b0 => ?_
  refine hK.out _ _ (.inl (by kernel_rfl)) ?_
  clear hK K hHeld hw
  refine wpAnyP_done (by kernel_rfl) ?_ _
  go_wp2_with fail
  refine sGo S fun w S b0 => ?_
  go_wp2
  go_returns
  exact S.done
theorem wcnt_make (h : RunP w B p A cp nv r) (hl : r.ns.length ≤ 900) : Calls Tryz.prog 123 #[Value.pointer (some ⟨B, 0, none⟩)] w (Clo 205 B p A cp r.wCount w) := by
  obtain ⟨e, S⟩ := mk1 h hl
  have HC := Lib.hid (wcnt_clo S)
  clear S h hl 
  go_enter Tryz.func123, Tryz.ntmps123
  go_wp2
  go_ret
  exact ⟨_, rfl, e, HC.out⟩
theorem wstop_clo (S : St w B p A cp [(g0, 99, #[Value.pointer (some ⟨B, 0, none⟩)])] 900 r w) : Calls Tryz.prog 268 #[.pointer (some ⟨g0, 0, none⟩)] w (Done B p A cp w (.tuple #[]) r.pStop) := by
  have b0 := S.c0
  go_enter Tryz.func268, Tryz.ntmps268
  go_wp2_with fail
  refine sAdd S fun w S b0 => ?_
  go_wp2_with fail
  refine sEnd S fun w S b0 => ?_
  go_wp2
  go_returns
  exact S.done
theorem wstop_make (h : RunP w B p A cp nv r) (hl : r.ns.length ≤ 900) : Calls Tryz.prog 212 #[Value.pointer (some ⟨B, 0, none⟩)] w (Clo 268 B p A cp r.pStop w) := by
  obtain ⟨e, S⟩ := mk1 h hl
  have HC := Lib.hid (wstop_clo S)
  clear S h hl 
  go_enter Tryz.func212, Tryz.ntmps212
  go_wp2
  go_ret
  exact ⟨_, rfl, e, HC.out⟩
end
end Go.Proofs.YtigdbokfapedcaaGreat
/- pq's lines, the program's: the closures that wait for the readers, and weigh them. -/
set_option linter.unusedVariables false
set_option linter.unusedSimpArgs false
namespace Go.Proofs.YtigdbokfapedcaaGreat
open Go.RowKit

theorem wmine_is (B g0 : Nat) (a v : Int) (w : World) (hb : Row w g0 99 #[Value.pointer (some ⟨B, 0, none⟩)]) (c6 : w.cell? ⟨B, 6, none⟩ = some (.int .u32 a)) :
    Calls Tryz.prog 203 #[.int .u32 v, .pointer (some ⟨g0, 0, none⟩)] w fun e w' => e = .returned (.bool (v == a)) ∧ Only Nil w w' := by
  have b0 : w.cell? ⟨g0, 0, none⟩ = some (Value.pointer (some ⟨B, 0, none⟩)) := hb.cell_ (i := 0) rfl
  have hw : IntKind.u32.wrap (a - 256) = (a - 256) % 4294967296 := rfl
  clear hb
  go_enter Tryz.func203, Tryz.ntmps203
  go_wp2
  go_ret
  exact ⟨rfl, Only.refl _ _⟩
theorem wbut_is (B g0 : Nat) (a v : Int) (w : World) (hb : Row w g0 99 #[Value.pointer (some ⟨B, 0, none⟩)]) (c6 : w.cell? ⟨B, 6, none⟩ = some (.int .u32 a)) :
    Calls Tryz.prog 267 #[.int .u32 v, .pointer (some ⟨g0, 0, none⟩)] w fun e w' => e = .returned (.bool (v == (a - 256) % 4294967296)) ∧ Only Nil w w' := by
  have b0 : w.cell? ⟨g0, 0, none⟩ = some (Value.pointer (some ⟨B, 0, none⟩)) := hb.cell_ (i := 0) rfl
  have hw : IntKind.u32.wrap (a - 256) = (a - 256) % 4294967296 := rfl
  clear hb
  go_enter Tryz.func267, Tryz.ntmps267
  go_wp2
  go_ret
  exact ⟨rfl, Only.refl _ _⟩
theorem holds_wmine (B g0 : Nat) (p A : Option Addr) (cp : Nat) (nv : Value) (r : LS) (w : World) (h : RunP w B p A cp nv r) (hb : Row w g0 99 #[Value.pointer (some ⟨B, 0, none⟩)]) : Holds A w (.func (.func 203) #[] #[.pointer (some ⟨g0, 0, none⟩)]) r.mine := by
  intro v w1 hO h0 h1
  have hb1 : Row w1 g0 99 #[Value.pointer (some ⟨B, 0, none⟩)] := h.aside hb hO.turned2 aside_p
  have hr1 : Row w1 B 102 (r.cells (.pointer p) nv) := h.row.only hO (fun e => h.far (.inr e) rfl)
  have c6 : w1.cell? ⟨B, 6, none⟩ = some (.int .u32 r.a) := hr1.cell_ (i := 6) rfl
  have HT := Lib.hid (wmine_is B g0 r.a v w1 hb1 c6)
  clear h hb hO hb1 hr1 c6
  have hn := neq_fn
  go_enter_defers Tryz.func275, Tryz.ntmps275
  go_wp2_with fail
  refine HT.out.mono ?_
  rintro e w2 ⟨rfl, hO⟩
  have HO := Lib.hid hO
  clear hO HT
  have HQ := Lib.hid (show r.mine v = (v == r.a) from rfl)
  generalize hq : (v == r.a) = q at *
  clear hq
  go_wp2
  refine leaves_cons (f := 284) (args := #[]) (by simp) (by simp [go_sem]) ?_
  refine (rec_idle _).mono ?_
  rintro e u' w'' ⟨rfl, rfl, rfl⟩
  exact ⟨_, results_tmp rfl _ _ _, by rw [HQ.out]; rfl, HO.out⟩
theorem holds_wbut (B g0 : Nat) (p A : Option Addr) (cp : Nat) (nv : Value) (r : LS) (w : World) (h : RunP w B p A cp nv r) (hb : Row w g0 99 #[Value.pointer (some ⟨B, 0, none⟩)]) : Holds A w (.func (.func 267) #[] #[.pointer (some ⟨g0, 0, none⟩)]) r.butMe := by
  intro v w1 hO h0 h1
  have hb1 : Row w1 g0 99 #[Value.pointer (some ⟨B, 0, none⟩)] := h.aside hb hO.turned2 aside_p
  have hr1 : Row w1 B 102 (r.cells (.pointer p) nv) := h.row.only hO (fun e => h.far (.inr e) rfl)
  have c6 : w1.cell? ⟨B, 6, none⟩ = some (.int .u32 r.a) := hr1.cell_ (i := 6) rfl
  have HT := Lib.hid (wbut_is B g0 r.a v w1 hb1 c6)
  clear h hb hO hb1 hr1 c6
  have hn := neq_fn
  go_enter_defers Tryz.func275, Tryz.ntmps275
  go_wp2_with fail
  refine HT.out.mono ?_
  rintro e w2 ⟨rfl, hO⟩
  have HO := Lib.hid hO
  clear hO HT
  have HQ := Lib.hid (show r.butMe v = (v == (r.a - 256) % 4294967296) from rfl)
  generalize hq : (v == (r.a - 256) % 4294967296) = q at *
  clear hq
  go_wp2
  refine leaves_cons (f := 284) (args := #[]) (by simp) (by simp [go_sem]) ?_
  refine (rec_idle _).mono ?_
  rintro e u' w'' ⟨rfl, rfl, rfl⟩
  exact ⟨_, results_tmp rfl _ _ _, by rw [HQ.out]; rfl, HO.out⟩

section
variable {B g0 g1 : Nat} {p A : Option Addr} {cp : Nat} {nv : Value} {r : LS} {w : World}
set_option maxHeartbeats 1000000 in
theorem wread_clo (S : St w B p A cp [(g0, 99, #[Value.pointer (some ⟨B, 0, none⟩)])] 900 r w) (hx : Words r.xs) : Calls Tryz.prog 202 #[.pointer (some ⟨g0, 0, none⟩)] w (Done B p A cp w (.tuple #[]) (r.pAdmit 1 r.mine)) := by
  generalize hsn : (r.stepR 1 r.mine).seen = sn
  generalize hdn : (r.stepR 1 r.mine).done = dn
  obtain ⟨r1, hr1⟩ : ∃ r1, r.wait 1 r.mine = r1 := ⟨_, rfl⟩
  have H := Lib.hid (And.intro hsn (And.intro hdn (And.intro hr1 hx)))
  have b0 := S.c0
  obtain ⟨nv, hP⟩ := S.run
  have HH := Lib.hid (holds_wmine B g0 p A cp nv r _ hP (S.rows _ (.head _)))
  clear hsn hdn hr1 hx hP
  go_enter Tryz.func202, Tryz.ntmps202
  go_wp2_with fail
  clear b0
  refine sWait S HH.out H.out.2.2.2 H.out.1 H.out.2.1 H.out.2.2.1 fun w S b0 => ?_
  clear HH
  cases sn
  all_goals cases dn
  · skip
    go_wp2
    go_returns
    exact S.fit (by unfold LS.pAdmit; rw [H.out.1, H.out.2.1, H.out.2.2.1]; rfl)
  · skip
    go_wp2_with fail
    refine sEnd S fun w S b0 => ?_
    go_wp2
    go_returns
    exact S.fit (by unfold LS.pAdmit; rw [H.out.1, H.out.2.1, H.out.2.2.1]; rfl)
  · skip
    go_wp2_with fail
    refine sNote S fun w S b0 => ?_
    go_wp2
    go_returns
    exact S.fit (by unfold LS.pAdmit; rw [H.out.1, H.out.2.1, H.out.2.2.1]; rfl)
  · skip
    go_wp2_with fail
    refine sNote S fun w S b0 => ?_
    go_wp2_with fail
    refine sEnd S fun w S b0 => ?_
    go_wp2
    go_returns
    exact S.fit (by unfold LS.pAdmit; rw [H.out.1, H.out.2.1, H.out.2.2.1]; rfl)
theorem wread_make (h : RunP w B p A cp nv r) (hl : r.ns.length ≤ 900) (hx : Words r.xs) : Calls Tryz.prog 121 #[Value.pointer (some ⟨B, 0, none⟩)] w (Clo 202 B p A cp (r.pAdmit 1 r.mine) w) := by
  obtain ⟨e, S⟩ := mk1 h hl
  have HC := Lib.hid (wread_clo S hx)
  clear S h hl hx
  go_enter Tryz.func121, Tryz.ntmps121
  go_wp2
  go_ret
  exact ⟨_, rfl, e, HC.out⟩
set_option maxHeartbeats 1000000 in
theorem wothers_clo (S : St w B p A cp [(g0, 99, #[Value.pointer (some ⟨B, 0, none⟩)])] 900 r w) (hx : Words r.xs) : Calls Tryz.prog 266 #[.pointer (some ⟨g0, 0, none⟩)] w (Done B p A cp w (.tuple #[]) r.wOthers) := by
  generalize hsn : (r.stepR 1 r.butMe).seen = sn
  generalize hdn : (r.stepR 1 r.butMe).done = dn
  obtain ⟨r1, hr1⟩ : ∃ r1, r.wait 1 r.butMe = r1 := ⟨_, rfl⟩
  have H := Lib.hid (And.intro hsn (And.intro hdn (And.intro hr1 hx)))
  have b0 := S.c0
  obtain ⟨nv, hP⟩ := S.run
  have HH := Lib.hid (holds_wbut B g0 p A cp nv r _ hP (S.rows _ (.head _)))
  clear hsn hdn hr1 hx hP
  go_enter Tryz.func266, Tryz.ntmps266
  go_wp2_with fail
  clear b0
  refine sWait S HH.out H.out.2.2.2 H.out.1 H.out.2.1 H.out.2.2.1 fun w S b0 => ?_
  clear HH
  cases sn
  all_goals cases dn
  · skip
    go_wp2
    go_returns
    exact S.fit (by unfold LS.wOthers; rw [H.out.1, H.out.2.1, H.out.2.2.1]; rfl)
  · skip
    go_wp2_with fail
    refine sGo S fun w S b0 => ?_
    go_wp2
    go_returns
    exact S.fit (by unfold LS.wOthers; rw [H.out.1, H.out.2.1, H.out.2.2.1]; rfl)
  · skip
    go_wp2_with fail
    refine sNote S fun w S b0 => ?_
    go_wp2
    go_returns
    exact S.fit (by unfold LS.wOthers; rw [H.out.1, H.out.2.1, H.out.2.2.1]; rfl)
  · skip
    go_wp2_with fail
    refine sNote S fun w S b0 => ?_
    go_wp2_with fail
    refine sGo S fun w S b0 => ?_
    go_wp2
    go_returns
    exact S.fit (by unfold LS.wOthers; rw [H.out.1, H.out.2.1, H.out.2.2.1]; rfl)
theorem wothers_make (h : RunP w B p A cp nv r) (hl : r.ns.length ≤ 900) (hx : Words r.xs) : Calls Tryz.prog 211 #[Value.pointer (some ⟨B, 0, none⟩)] w (Clo 266 B p A cp r.wOthers w) := by
  obtain ⟨e, S⟩ := mk1 h hl
  have HC := Lib.hid (wothers_clo S hx)
  clear S h hl hx
  go_enter Tryz.func211, Tryz.ntmps211
  go_wp2
  go_ret
  exact ⟨_, rfl, e, HC.out⟩

-- weighing
set_option maxHeartbeats 1000000 in
theorem wweigh_clo (n : Int) (S : St w B p A cp [(g0, 99, #[Value.pointer (some ⟨B, 0, none⟩)]), (g1, 3, #[.int .i64 n])] 900 r w) : Calls Tryz.prog 265 #[.pointer (some ⟨g0, 0, none⟩), .pointer (some ⟨g1, 0, none⟩)] w (Done B p A cp w (.tuple #[]) (r.wWeigh n)) := by
  have b0 := S.c0
  go_enter Tryz.func265, Tryz.ntmps265
  go_upto_region 0 with (fail)
  refine wp_region_phase (n := 7) 6 (fun w => w.cell? ⟨g0, 0, none⟩ = some (Value.pointer (some ⟨B, 0, none⟩))) rfl (by kernel_rfl) b0 (fun hHeld => ?_)
  replace S := S.drew
  clear b0
  generalize w.drew = w1 at *
  refine zt 0 rfl ?_
  refine zt 1 rfl ?_
  refine mpc 2 rfl (by kernel_rfl) (by rfl) (fun K hK => ?_)
  go_simp
  refine sLoad S fun w2 S b0 => ?_
  refine hK.out _ _ (.inr b0) ?_
  clear hK K hHeld
  refine za 3 rfl ?_
  refine za 4 rfl ?_
  refine za 5 rfl ?_
  have c7 := S.c7
  have f7 := S.froz 7
  refine mpc 6 rfl (by kernel_rfl) (by rfl) (fun K hK => ?_)
  go_simp
  refine hK.out _ _ (.inl (by kernel_rfl)) ?_
  clear hK K c7 f7 b0
  replace S := S.setB (wordAt r.xs 1)
  generalize w2.setCell ⟨B, 7, none⟩ (.int .u32 (wordAt r.xs 1)) = w3 at *
  refine wpAnyP_done (by kernel_rfl) ?_ _
  have b0 := S.c0
  clear b0
  go_upto_region 1 with (fail)
  refine wp_region_phase (n := 13) 12 (fun w => w.cell? ⟨g0, 0, none⟩ = some (Value.pointer (some ⟨B, 0, none⟩)) ∧ w.cell? ⟨B, 6, none⟩ = some (.int .u32 r.a) ∧ w.cell? ⟨B, 7, none⟩ = some (.int .u32 (wordAt r.xs 1)) ∧ w.cell? ⟨g1, 0, none⟩ = some (.int .i64 n)) rfl (by kernel_rfl) ⟨S.c0, S.c6, S.c7, S.rows.c1⟩ (fun hHeld => ?_)
  replace S := S.drew
  generalize w3.drew = w4 at *
  refine zt 0 rfl ?_
  refine za 1 rfl ?_
  refine za 2 rfl ?_
  refine za 3 rfl ?_
  refine zt 4 rfl ?_
  refine zt 5 rfl ?_
  refine za 6 rfl ?_
  refine za 7 rfl ?_
  refine za 8 rfl ?_
  refine zt 9 rfl ?_
  refine zt 11 rfl ?_
  refine mpc 10 rfl (by kernel_rfl) (by rfl) (fun K hK => ?_)
  go_simp
  refine (ahead_any r.a (wordAt r.xs 1) _).mono ?_
  obtain ⟨ah, hz⟩ : ∃ ah, aheadI r.a (wordAt r.xs 1) = ah := ⟨_, rfl⟩
  rw [hz]
  have H := Lib.hid hz
  clear hz
  rintro e w9 ⟨rfl, rfl⟩
  refine hK.out _ _ (.inr hHeld) ?_
  clear hK K
  refine mpc 12 rfl (by kernel_rfl) (by rfl) (fun K hK => ?_)
  go_simp
  refine hK.out _ _ (.inl (by kernel_rfl)) ?_
  clear hK K hHeld
  refine wpAnyP_done (by kernel_rfl) ?_ _
  have b0 := S.c0
  by_cases h1 : ah ≤ n
  · skip
    go_wp2_with fail
    refine sGo S fun w S b0 => ?_
    go_wp2
    go_returns
    exact S.fit (by unfold LS.wWeigh; rw [H.out, if_pos h1])
  · skip
    go_wp2_with fail
    refine sNote S fun w S b0 => ?_
    go_wp2_with fail
    refine sGo S fun w S b0 => ?_
    go_wp2
    go_returns
    exact S.fit (by unfold LS.wWeigh; rw [H.out, if_neg (show ¬ ah ≤ n by omega)])
theorem wweigh_make (n : Int) (h : RunP w B p A cp nv r) (hl : r.ns.length ≤ 900) : Calls Tryz.prog 210 #[Value.pointer (some ⟨B, 0, none⟩), .int .i64 n] w (Clo 265 B p A cp (r.wWeigh n) w) := by
  obtain ⟨e, S⟩ := mk2 h hl aside_i
  have HC := Lib.hid (wweigh_clo n S)
  clear S h hl 
  go_enter Tryz.func210, Tryz.ntmps210
  go_wp2
  go_ret
  exact ⟨_, rfl, e, HC.out⟩
end
end Go.Proofs.YtigdbokfapedcaaGreat
