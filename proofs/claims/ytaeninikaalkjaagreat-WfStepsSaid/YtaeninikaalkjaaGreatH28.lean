import Derived.Test.YtaeninikaalkjaaGreatH14
import Derived.Test.YtaeninikaalkjaaGreatH27
import Derived.Test.YtaeninikaalkjaaGreatH5
import Derived.Test.YtaeninikaalkjaaGreatH15
import Derived.Test.YtaeninikaalkjaaGreatH26
set_option linter.unusedVariables false
set_option linter.unusedSimpArgs false
namespace Go.Proofs.YtaeninikaalkjaaGreat
open Go.RowKit
section
variable (B base : Nat) (A : Option Addr) (l cp : Nat) (nv : Value) (r : LS) (c x y : Int) (w : World)
theorem radd_run (h : RunR w B base A l cp nv r) : Calls Tryz.prog 40 #[.pointer (some ⟨B, 0, none⟩), .int .i64 c, .int .u32 x] w (DoneR B base A l cp w (.int .u32 (wordAt r.xs c)) (r.doA 3 c x 0)) := by
  go_enter Tryz.func40, Tryz.ntmps40
  go_wp2_with fail
  refine (rdo_run B base A l cp nv r 3 c x 0 _ h rfl).mono ?_
  rintro e w1 ⟨rfl, hO, hP⟩
  have HO := Lib.hid hO
  have HP := Lib.hid hP
  clear hO hP h
  go_wp2
  go_ret
  exact ⟨rfl, HO.out, nv, HP.out⟩
theorem rend_run (ok : Bool) (h : RunR w B base A l cp nv r) : Calls Tryz.prog 42 #[.pointer (some ⟨B, 0, none⟩), .bool ok] w (DoneR B base A l cp w (.tuple #[]) (r.fin ok)) := by
  have c13 : w.cell? ⟨B, 13, none⟩ = some (.int .i64 r.ret) := h.row.cell_ (i := 13) rfl
  have f13 : w.frozen? ⟨B, 13, none⟩ = false := h.row.frozen 13
  have HP := Lib.hid h
  clear h
  cases ok
  · go_enter Tryz.func42, Tryz.ntmps42
    go_wp2
    go_returns
    exact ⟨rfl, (Only.refl (TurnB B A) w).setCell (p := ⟨B, 13, none⟩) (.inr (.inl rfl)) _, nv, HP.out.setRet 1⟩
  · go_enter Tryz.func42, Tryz.ntmps42
    go_wp2
    go_returns
    exact ⟨rfl, ((Only.refl (TurnB B A) w).setCell (p := ⟨B, 13, none⟩) (.inr (.inl rfl)) _).setCell (p := ⟨B, 13, none⟩) (.inr (.inl rfl)) _, nv, (HP.out.setRet 1).setRet 2⟩
end
theorem rover_run (B base : Nat) (A : Option Addr) (l cp : Nat) (nv : Value) (r : LS) (w : World) (h : RunR w B base A l cp nv r) :
    Calls Tryz.prog 11 #[.pointer (some ⟨B, 0, none⟩)] w fun e w' => e = .returned (.bool r.over) ∧ w' = w := by
  have HOV := Lib.hid (show r.over = ((r.ret != 0) && !r.k.on) from rfl)
  have c13 : w.cell? ⟨B, 13, none⟩ = some (.int .i64 r.ret) := h.row.cell_ (i := 13) rfl
  have c9 : w.cell? ⟨B, 9, none⟩ = some (.bool r.k.on) := h.row.cell_ (i := 9) rfl
  clear h
  cases hb : (r.ret != 0)
  · have HB := Lib.hid hb
    have hc : ¬ (!(r.ret == 0)) = true := by rw [show (!(r.ret == 0)) = (r.ret != 0) from rfl, hb]; simp
    go_enter Tryz.func11, Tryz.ntmps11
    go_wp2
    go_ret
    exact ⟨ret_bool (by rw [HOV.out, HB.out, Bool.false_and]), rfl⟩
  · have HB := Lib.hid hb
    cases hk : r.k.on
    · have HKK := Lib.hid hk
      rw [hk] at c9
      clear hk
      go_enter Tryz.func11, Tryz.ntmps11
      go_wp2
      go_ret
      exact ⟨ret_bool (by rw [HOV.out, HB.out, HKK.out]; rfl), rfl⟩
    · have HKK := Lib.hid hk
      rw [hk] at c9
      clear hk
      go_enter Tryz.func11, Tryz.ntmps11
      go_wp2
      go_ret
      exact ⟨ret_bool (by rw [HOV.out, HB.out, HKK.out]; rfl), rfl⟩
end Go.Proofs.YtaeninikaalkjaaGreat
set_option linter.unusedVariables false
set_option linter.unusedSimpArgs false
namespace Go.Proofs.YtaeninikaalkjaaGreat
open Go.RowKit
def codeOps (n : Nat) : Code → Option (Array Oper)
  | .region id ops _ => if id = n then some ops else none
  | .seq a b => (match codeOps n a with | some o => some o | none => codeOps n b)
  | .cond _ t e => (match codeOps n t with | some o => some o | none => codeOps n e)
  | .block _ b => codeOps n b
  | .loop b => codeOps n b
  | .scope b => codeOps n b
  | _ => none
def regOps (f : Func) (n : Nat) : Array Oper := match f.body with | some c => (codeOps n c).getD #[] | none => #[]
theorem sel12 : Region.noSelect (regOps Tryz.f3 12) = true := by kernel_rfl
theorem free12 : freeB .any (regOps Tryz.f3 12) = true := by kernel_rfl
theorem reg_intro2 {P : Program} {Q : Exit → Act → World → Prop} {a : Act} {w : World} {id : Nat} {ops ops' : Array Oper} (h : ops = ops') (hs : Region.noSelect ops = true) (hf : freeB .any ops = true) (k : Region.noSelect ops' = true → freeB .any ops' = true → (Code.region id ops' true).wp P Q a w) : (Code.region id ops true).wp P Q a w := by subst h; exact k hs hf
set_option maxRecDepth 100000 in
set_option maxHeartbeats 8000000 in
theorem cmp_same {K : Act → World → Prop} {Q' : Exit → Act → World → Prop} (x0 x1 x2 x3 x4 x5 x6 x7 x8 x9 x10 x12 x16 x17 x18 x19 x20 x21 x22 x23 x24 x25 x26 x27 x28 x29 x30 x31 x32 x33 x34 x35 x36 x37 x38 x39 x40 x41 x42 x43 x44 x45 x46 x47 x48 x49 x50 x51 x52 x53 x54 x55 x56 x57 x58 x59 x60 x61 x62 x63 x64 x65 x66 x67 x68 x69 x70 x71 x72 x73 x74 x75 x76 x77 x78 x79 x80 x81 x82 x83 x84 x85 x86 x87 x88 x89 x90 x91 x92 x93 x94 x95 x96 x97 x98 x99 : Value) (w w12 : World) (B B' M b l c' c2 : Nat) (A' A2 : Option Addr) (nvp nvr : Value) (r' : LS)
    (HRD : Hid (Two w B B' M (some ⟨b, 0, none⟩) A' A2 c' l c2 nvp nvr r' r' w12)) (hl : l ≤ 1024) (hns : r'.ns.length ≤ 100)
    (hq : ∀ c a (d : Tmp) v w, Q' (.panic c) (a.put (some d) v) w → Q' (.panic c) a w) (h : ∀ (v51 v52 v53 v54 v55 v56 v57 v58 v59 v60 v61 v62 v63 v64 v65 v66 v67 v68 v69 v70 v71 v72 v73 v74 v75 v76 v77 v78 v79 v80 v81 v82 v83 v84 v85 v86 v87 v88 v89 v90 v91 v92 v93 v94 v95 v96 v97 v98 v99 : Value) (w' : World), Only Nil w w' → K ⟨#[x0, x1, x2, x3, x4, x5, x6, x7, x8, x9, .bool true, .pointer (some ⟨b, 0, none⟩), x12, .pointer (some ⟨B, 0, none⟩), .pointer (some ⟨B', 0, none⟩), .bool r'.over, x16, x17, x18, x19, x20, x21, x22, x23, x24, x25, x26, x27, x28, x29, x30, x31, x32, x33, x34, x35, x36, x37, x38, x39, x40, x41, x42, x43, x44, x45, x46, x47, x48, x49, x50, v51, v52, v53, v54, v55, v56, v57, v58, v59, v60, v61, v62, v63, v64, v65, v66, v67, v68, v69, v70, v71, v72, v73, v74, v75, v76, v77, v78, v79, v80, v81, v82, v83, v84, v85, v86, v87, v88, v89, v90, v91, v92, v93, v94, v95, v96, v97, v98, v99], []⟩ w') :
    (Code.region 12 (regOps Tryz.f3 12) true).wp Tryz.prog (Exit.then K Q') ⟨#[x0, x1, x2, x3, x4, x5, x6, x7, x8, x9, x10, .pointer (some ⟨b, 0, none⟩), x12, .pointer (some ⟨B, 0, none⟩), .pointer (some ⟨B', 0, none⟩), .bool r'.over, x16, x17, x18, x19, x20, x21, x22, x23, x24, x25, x26, x27, x28, x29, x30, x31, x32, x33, x34, x35, x36, x37, x38, x39, x40, x41, x42, x43, x44, x45, x46, x47, x48, x49, x50, x51, x52, x53, x54, x55, x56, x57, x58, x59, x60, x61, x62, x63, x64, x65, x66, x67, x68, x69, x70, x71, x72, x73, x74, x75, x76, x77, x78, x79, x80, x81, x82, x83, x84, x85, x86, x87, x88, x89, x90, x91, x92, x93, x94, x95, x96, x97, x98, x99], []⟩ w12 := by
  have hfr0 := free12
  have hsel0 := sel12
  refine reg_intro2 (rfl : _ = List.toArray (_ :: _ :: _ :: _ :: _ :: _ :: _ :: _ :: _ :: _ :: _ :: _ :: _ :: _ :: _ :: _ :: _ :: _ :: _ :: _ :: _ :: _ :: _ :: _ :: _ :: _ :: _ :: _ :: _ :: _ :: _ :: _ :: _ :: _ :: _ :: _ :: _ :: _ :: _ :: _ :: _ :: _ :: _ :: _ :: _ :: _ :: _ :: _ :: _ :: _ :: [])) hsel0 hfr0 (fun hsel hfr => ?_)
  clear hfr0 hsel0
  refine wp_region_phase (n := 50) 47 (fun W => Two w B B' M (some ⟨b, 0, none⟩) A' A2 c' l c2 nvp nvr r' r' W) rfl (by kernel_rfl) (HRD.out.keep (Only.refl Nil w12).drew) (fun hHeld => ?_)
  have HRD1 := Lib.hid (HRD.out.keep (Only.refl Nil w12).drew)
  clear HRD
  generalize w12.drew = w13 at *
  refine with_cl (fun hC => ?_)
  refine mqa 0 rfl (.bool r'.over) hsel hfr hC (by kernel_rfl) (by decide) (fun _ _ _ h => hq _ _ _ _ _ h) (by rfl) (fun w => ?_) (by first | (right; assumption) | (left; kernel_rfl)) (fun hC2 => ?_)
  · go_simp
  clear hC
  have hC := hC2
  clear hC2
  (try (simp only [Act.put, k1, k2, k3]))
  refine mqa 1 rfl (.pointer (some ⟨B', 0, none⟩)) hsel hfr hC (by kernel_rfl) (by decide) (fun _ _ _ h => hq _ _ _ _ _ h) (by rfl) (fun w => ?_) (by first | (right; assumption) | (left; kernel_rfl)) (fun hC2 => ?_)
  · go_simp
  clear hC
  have hC := hC2
  clear hC2
  (try (simp only [Act.put, k1, k2, k3]))
  refine mqc 2 rfl hC (by kernel_rfl) (by rfl) (fun K hK => ?_)
  go_simp
  refine (rover_run B' M A2 l c2 nvr r' _ HRD1.out.hr).mono ?_
  rintro e w14 ⟨rfl, hw⟩
  have hO : Only Nil w13 w14 := hw ▸ Only.refl Nil w13
  clear hw
  have HRD2 := Lib.hid (HRD1.out.keep hO)
  refine hK.out _ _ (.inr HRD2.out) (fun hC2 => ?_)
  have hHeld2 := HRD2.out
  clear hK K hHeld hO HRD1 hC
  have hC := hC2
  clear hC2
  have HRD1 := HRD2
  have hHeld := hHeld2
  clear HRD2 hHeld2
  refine mqa 3 rfl (.bool true) hsel hfr hC (by kernel_rfl) (by decide) (fun _ _ _ h => hq _ _ _ _ _ h) (by rfl) (fun w => ?_) (by first | (right; assumption) | (left; kernel_rfl)) (fun hC2 => ?_)
  · go_simp
  clear hC
  have hC := hC2
  clear hC2
  (try (simp only [Act.put, k1, k2, k3]))
  refine mqa 4 rfl (.bool true) hsel hfr hC (by kernel_rfl) (by decide) (fun _ _ _ h => hq _ _ _ _ _ h) (by rfl) (fun w => ?_) (by first | (right; assumption) | (left; kernel_rfl)) (fun hC2 => ?_)
  · go_simp
  clear hC
  have hC := hC2
  clear hC2
  (try (simp only [Act.put, k1, k2, k3]))
  refine mqa 5 rfl (.pointer (some ⟨B, 0, none⟩)) hsel hfr hC (by kernel_rfl) (by decide) (fun _ _ _ h => hq _ _ _ _ _ h) (by rfl) (fun w => ?_) (by first | (right; assumption) | (left; kernel_rfl)) (fun hC2 => ?_)
  · go_simp
  clear hC
  have hC := hC2
  clear hC2
  (try (simp only [Act.put, k1, k2, k3]))
  refine mqa 6 rfl (.pointer (some ⟨B, 0, none⟩)) hsel hfr hC (by kernel_rfl) (by decide) (fun _ _ _ h => hq _ _ _ _ _ h) (by rfl) (fun w => ?_) (by first | (right; assumption) | (left; kernel_rfl)) (fun hC2 => ?_)
  · go_simp
  clear hC
  have hC := hC2
  clear hC2
  (try (simp only [Act.put, k1, k2, k3]))
  refine mqa 7 rfl (.pointer (some ⟨B, 4, none⟩)) hsel hfr hC (by kernel_rfl) (by decide) (fun _ _ _ h => hq _ _ _ _ _ h) (by rfl) (fun w => ?_) (by first | (right; assumption) | (left; kernel_rfl)) (fun hC2 => ?_)
  · go_simp
  clear hC
  have hC := hC2
  clear hC2
  (try (simp only [Act.put, k1, k2, k3]))
  refine mqt 8 rfl [13, 14, 15, 26, 35, 37, 44, 46] (.agg #[.int .i64 r'.op, .int .i64 r'.line, .int .u32 r'.a, .int .u32 r'.b, .int .i64 r'.s, .bool r'.k.on, .int .i64 r'.k.c, .int .i64 r'.k.i, .bool r'.k.hit, .int .i64 r'.ret]) hsel hfr hC (by kernel_rfl) (by kernel_rfl) (fun _ _ _ h => hq _ _ _ _ _ h) (by rfl) (fun w hSw => ?_) (by assumption) (fun hC2 => ?_)
  · (try dsimp only at hSw)
    have x4 : w.cell? ⟨B, 4, none⟩ = some (.int .i64 r'.op) := hSw.hp.row.cell_ (i := 4) rfl
    have x5 : w.cell? ⟨B, 5, none⟩ = some (.int .i64 r'.line) := hSw.hp.row.cell_ (i := 5) rfl
    have x6 : w.cell? ⟨B, 6, none⟩ = some (.int .u32 r'.a) := hSw.hp.row.cell_ (i := 6) rfl
    have x7 : w.cell? ⟨B, 7, none⟩ = some (.int .u32 r'.b) := hSw.hp.row.cell_ (i := 7) rfl
    have x8 : w.cell? ⟨B, 8, none⟩ = some (.int .i64 r'.s) := hSw.hp.row.cell_ (i := 8) rfl
    have x9 : w.cell? ⟨B, 9, none⟩ = some (.bool r'.k.on) := hSw.hp.row.cell_ (i := 9) rfl
    have x10 : w.cell? ⟨B, 10, none⟩ = some (.int .i64 r'.k.c) := hSw.hp.row.cell_ (i := 10) rfl
    have x11 : w.cell? ⟨B, 11, none⟩ = some (.int .i64 r'.k.i) := hSw.hp.row.cell_ (i := 11) rfl
    have x12 : w.cell? ⟨B, 12, none⟩ = some (.bool r'.k.hit) := hSw.hp.row.cell_ (i := 12) rfl
    have x13 : w.cell? ⟨B, 13, none⟩ = some (.int .i64 r'.ret) := hSw.hp.row.cell_ (i := 13) rfl
    go_simp
  clear hC
  have hC := hC2
  clear hC2
  (try (simp only [Act.put, k1, k2, k3]))
  refine mqa 9 rfl (.pointer (some ⟨B', 0, none⟩)) hsel hfr hC (by kernel_rfl) (by decide) (fun _ _ _ h => hq _ _ _ _ _ h) (by rfl) (fun w => ?_) (by first | (right; assumption) | (left; kernel_rfl)) (fun hC2 => ?_)
  · go_simp
  clear hC
  have hC := hC2
  clear hC2
  (try (simp only [Act.put, k1, k2, k3]))
  refine mqa 10 rfl (.pointer (some ⟨B', 0, none⟩)) hsel hfr hC (by kernel_rfl) (by decide) (fun _ _ _ h => hq _ _ _ _ _ h) (by rfl) (fun w => ?_) (by first | (right; assumption) | (left; kernel_rfl)) (fun hC2 => ?_)
  · go_simp
  clear hC
  have hC := hC2
  clear hC2
  (try (simp only [Act.put, k1, k2, k3]))
  refine mqa 11 rfl (.pointer (some ⟨B', 4, none⟩)) hsel hfr hC (by kernel_rfl) (by decide) (fun _ _ _ h => hq _ _ _ _ _ h) (by rfl) (fun w => ?_) (by first | (right; assumption) | (left; kernel_rfl)) (fun hC2 => ?_)
  · go_simp
  clear hC
  have hC := hC2
  clear hC2
  (try (simp only [Act.put, k1, k2, k3]))
  refine mqt 12 rfl [13, 14, 15, 26, 35, 37, 44, 46] (.agg #[.int .i64 r'.op, .int .i64 r'.line, .int .u32 r'.a, .int .u32 r'.b, .int .i64 r'.s, .bool r'.k.on, .int .i64 r'.k.c, .int .i64 r'.k.i, .bool r'.k.hit, .int .i64 r'.ret]) hsel hfr hC (by kernel_rfl) (by kernel_rfl) (fun _ _ _ h => hq _ _ _ _ _ h) (by rfl) (fun w hSw => ?_) (by assumption) (fun hC2 => ?_)
  · (try dsimp only at hSw)
    have x4 : w.cell? ⟨B', 4, none⟩ = some (.int .i64 r'.op) := hSw.hr.row.cell_ (i := 4) rfl
    have x5 : w.cell? ⟨B', 5, none⟩ = some (.int .i64 r'.line) := hSw.hr.row.cell_ (i := 5) rfl
    have x6 : w.cell? ⟨B', 6, none⟩ = some (.int .u32 r'.a) := hSw.hr.row.cell_ (i := 6) rfl
    have x7 : w.cell? ⟨B', 7, none⟩ = some (.int .u32 r'.b) := hSw.hr.row.cell_ (i := 7) rfl
    have x8 : w.cell? ⟨B', 8, none⟩ = some (.int .i64 r'.s) := hSw.hr.row.cell_ (i := 8) rfl
    have x9 : w.cell? ⟨B', 9, none⟩ = some (.bool r'.k.on) := hSw.hr.row.cell_ (i := 9) rfl
    have x10 : w.cell? ⟨B', 10, none⟩ = some (.int .i64 r'.k.c) := hSw.hr.row.cell_ (i := 10) rfl
    have x11 : w.cell? ⟨B', 11, none⟩ = some (.int .i64 r'.k.i) := hSw.hr.row.cell_ (i := 11) rfl
    have x12 : w.cell? ⟨B', 12, none⟩ = some (.bool r'.k.hit) := hSw.hr.row.cell_ (i := 12) rfl
    have x13 : w.cell? ⟨B', 13, none⟩ = some (.int .i64 r'.ret) := hSw.hr.row.cell_ (i := 13) rfl
    go_simp
  clear hC
  have hC := hC2
  clear hC2
  (try (simp only [Act.put, k1, k2, k3]))
  refine mqa 13 rfl (.bool true) hsel hfr hC (by kernel_rfl) (by decide) (fun _ _ _ h => hq _ _ _ _ _ h) (by rfl) (fun w => ?_) (by first | (right; assumption) | (left; kernel_rfl)) (fun hC2 => ?_)
  · go_simp
  clear hC
  have hC := hC2
  clear hC2
  (try (simp only [Act.put, k1, k2, k3]))
  refine mqa 14 rfl (.bool true) hsel hfr hC (by kernel_rfl) (by decide) (fun _ _ _ h => hq _ _ _ _ _ h) (by rfl) (fun w => ?_) (by first | (right; assumption) | (left; kernel_rfl)) (fun hC2 => ?_)
  · go_simp
  clear hC
  have hC := hC2
  clear hC2
  (try (simp only [Act.put, k1, k2, k3]))
  refine mqa 15 rfl (.bool true) hsel hfr hC (by kernel_rfl) (by decide) (fun _ _ _ h => hq _ _ _ _ _ h) (by rfl) (fun w => ?_) (by first | (right; assumption) | (left; kernel_rfl)) (fun hC2 => ?_)
  · go_simp
  clear hC
  have hC := hC2
  clear hC2
  (try (simp only [Act.put, k1, k2, k3]))
  refine mqa 16 rfl (.pointer (some ⟨B, 0, none⟩)) hsel hfr hC (by kernel_rfl) (by decide) (fun _ _ _ h => hq _ _ _ _ _ h) (by rfl) (fun w => ?_) (by first | (right; assumption) | (left; kernel_rfl)) (fun hC2 => ?_)
  · go_simp
  clear hC
  have hC := hC2
  clear hC2
  (try (simp only [Act.put, k1, k2, k3]))
  refine mqa 17 rfl (.pointer (some ⟨B, 0, none⟩)) hsel hfr hC (by kernel_rfl) (by decide) (fun _ _ _ h => hq _ _ _ _ _ h) (by rfl) (fun w => ?_) (by first | (right; assumption) | (left; kernel_rfl)) (fun hC2 => ?_)
  · go_simp
  clear hC
  have hC := hC2
  clear hC2
  (try (simp only [Act.put, k1, k2, k3]))
  refine mqa 18 rfl (.pointer (some ⟨B, 14, none⟩)) hsel hfr hC (by kernel_rfl) (by decide) (fun _ _ _ h => hq _ _ _ _ _ h) (by rfl) (fun w => ?_) (by first | (right; assumption) | (left; kernel_rfl)) (fun hC2 => ?_)
  · go_simp
  clear hC
  have hC := hC2
  clear hC2
  (try (simp only [Act.put, k1, k2, k3]))
  refine mqt 19 rfl [24, 25, 26, 35, 37, 44, 46] (.agg #[.int .i64 r'.acc.k, .int .i64 r'.acc.c, .int .u32 r'.acc.x, .int .u32 r'.acc.y, .int .u32 r'.acc.o]) hsel hfr hC (by kernel_rfl) (by kernel_rfl) (fun _ _ _ h => hq _ _ _ _ _ h) (by rfl) (fun w hSw => ?_) (by assumption) (fun hC2 => ?_)
  · (try dsimp only at hSw)
    have x14 : w.cell? ⟨B, 14, none⟩ = some (.int .i64 r'.acc.k) := hSw.hp.row.cell_ (i := 14) rfl
    have x15 : w.cell? ⟨B, 15, none⟩ = some (.int .i64 r'.acc.c) := hSw.hp.row.cell_ (i := 15) rfl
    have x16 : w.cell? ⟨B, 16, none⟩ = some (.int .u32 r'.acc.x) := hSw.hp.row.cell_ (i := 16) rfl
    have x17 : w.cell? ⟨B, 17, none⟩ = some (.int .u32 r'.acc.y) := hSw.hp.row.cell_ (i := 17) rfl
    have x18 : w.cell? ⟨B, 18, none⟩ = some (.int .u32 r'.acc.o) := hSw.hp.row.cell_ (i := 18) rfl
    go_simp
  clear hC
  have hC := hC2
  clear hC2
  (try (simp only [Act.put, k1, k2, k3]))
  refine mqa 20 rfl (.pointer (some ⟨B', 0, none⟩)) hsel hfr hC (by kernel_rfl) (by decide) (fun _ _ _ h => hq _ _ _ _ _ h) (by rfl) (fun w => ?_) (by first | (right; assumption) | (left; kernel_rfl)) (fun hC2 => ?_)
  · go_simp
  clear hC
  have hC := hC2
  clear hC2
  (try (simp only [Act.put, k1, k2, k3]))
  refine mqa 21 rfl (.pointer (some ⟨B', 0, none⟩)) hsel hfr hC (by kernel_rfl) (by decide) (fun _ _ _ h => hq _ _ _ _ _ h) (by rfl) (fun w => ?_) (by first | (right; assumption) | (left; kernel_rfl)) (fun hC2 => ?_)
  · go_simp
  clear hC
  have hC := hC2
  clear hC2
  (try (simp only [Act.put, k1, k2, k3]))
  refine mqa 22 rfl (.pointer (some ⟨B', 14, none⟩)) hsel hfr hC (by kernel_rfl) (by decide) (fun _ _ _ h => hq _ _ _ _ _ h) (by rfl) (fun w => ?_) (by first | (right; assumption) | (left; kernel_rfl)) (fun hC2 => ?_)
  · go_simp
  clear hC
  have hC := hC2
  clear hC2
  (try (simp only [Act.put, k1, k2, k3]))
  refine mqt 23 rfl [24, 25, 26, 35, 37, 44, 46] (.agg #[.int .i64 r'.acc.k, .int .i64 r'.acc.c, .int .u32 r'.acc.x, .int .u32 r'.acc.y, .int .u32 r'.acc.o]) hsel hfr hC (by kernel_rfl) (by kernel_rfl) (fun _ _ _ h => hq _ _ _ _ _ h) (by rfl) (fun w hSw => ?_) (by assumption) (fun hC2 => ?_)
  · (try dsimp only at hSw)
    have x14 : w.cell? ⟨B', 14, none⟩ = some (.int .i64 r'.acc.k) := hSw.hr.row.cell_ (i := 14) rfl
    have x15 : w.cell? ⟨B', 15, none⟩ = some (.int .i64 r'.acc.c) := hSw.hr.row.cell_ (i := 15) rfl
    have x16 : w.cell? ⟨B', 16, none⟩ = some (.int .u32 r'.acc.x) := hSw.hr.row.cell_ (i := 16) rfl
    have x17 : w.cell? ⟨B', 17, none⟩ = some (.int .u32 r'.acc.y) := hSw.hr.row.cell_ (i := 17) rfl
    have x18 : w.cell? ⟨B', 18, none⟩ = some (.int .u32 r'.acc.o) := hSw.hr.row.cell_ (i := 18) rfl
    go_simp
  clear hC
  have hC := hC2
  clear hC2
  (try (simp only [Act.put, k1, k2, k3]))
  refine mqa 24 rfl (.bool true) hsel hfr hC (by kernel_rfl) (by decide) (fun _ _ _ h => hq _ _ _ _ _ h) (by rfl) (fun w => ?_) (by first | (right; assumption) | (left; kernel_rfl)) (fun hC2 => ?_)
  · go_simp
  clear hC
  have hC := hC2
  clear hC2
  (try (simp only [Act.put, k1, k2, k3]))
  refine mqa 25 rfl (.bool true) hsel hfr hC (by kernel_rfl) (by decide) (fun _ _ _ h => hq _ _ _ _ _ h) (by rfl) (fun w => ?_) (by first | (right; assumption) | (left; kernel_rfl)) (fun hC2 => ?_)
  · go_simp
  clear hC
  have hC := hC2
  clear hC2
  (try (simp only [Act.put, k1, k2, k3]))
  refine mqa 26 rfl (.bool true) hsel hfr hC (by kernel_rfl) (by decide) (fun _ _ _ h => hq _ _ _ _ _ h) (by rfl) (fun w => ?_) (by first | (right; assumption) | (left; kernel_rfl)) (fun hC2 => ?_)
  · go_simp
  clear hC
  have hC := hC2
  clear hC2
  (try (simp only [Act.put, k1, k2, k3]))
  refine mqa 27 rfl (.pointer (some ⟨B, 0, none⟩)) hsel hfr hC (by kernel_rfl) (by decide) (fun _ _ _ h => hq _ _ _ _ _ h) (by rfl) (fun w => ?_) (by first | (right; assumption) | (left; kernel_rfl)) (fun hC2 => ?_)
  · go_simp
  clear hC
  have hC := hC2
  clear hC2
  (try (simp only [Act.put, k1, k2, k3]))
  refine mqa 28 rfl (.pointer (some ⟨B, 0, none⟩)) hsel hfr hC (by kernel_rfl) (by decide) (fun _ _ _ h => hq _ _ _ _ _ h) (by rfl) (fun w => ?_) (by first | (right; assumption) | (left; kernel_rfl)) (fun hC2 => ?_)
  · go_simp
  clear hC
  have hC := hC2
  clear hC2
  (try (simp only [Act.put, k1, k2, k3]))
  refine mqa 29 rfl (.pointer (some ⟨B, 19, none⟩)) hsel hfr hC (by kernel_rfl) (by decide) (fun _ _ _ h => hq _ _ _ _ _ h) (by rfl) (fun w => ?_) (by first | (right; assumption) | (left; kernel_rfl)) (fun hC2 => ?_)
  · go_simp
  clear hC
  have hC := hC2
  clear hC2
  (try (simp only [Act.put, k1, k2, k3]))
  refine mqt 30 rfl [35, 37, 44, 46] (nvp) hsel hfr hC (by kernel_rfl) (by kernel_rfl) (fun _ _ _ h => hq _ _ _ _ _ h) (by rfl) (fun w hSw => ?_) (by assumption) (fun hC2 => ?_)
  · (try dsimp only at hSw)
    have x19 : w.cell? ⟨B, 19, none⟩ = some (nvp) := hSw.hp.row.cell_ (i := 19) rfl
    go_simp
  clear hC
  have hC := hC2
  clear hC2
  (try (simp only [Act.put, k1, k2, k3]))
  refine mqa 31 rfl (.pointer (some ⟨B', 0, none⟩)) hsel hfr hC (by kernel_rfl) (by decide) (fun _ _ _ h => hq _ _ _ _ _ h) (by rfl) (fun w => ?_) (by first | (right; assumption) | (left; kernel_rfl)) (fun hC2 => ?_)
  · go_simp
  clear hC
  have hC := hC2
  clear hC2
  (try (simp only [Act.put, k1, k2, k3]))
  refine mqa 32 rfl (.pointer (some ⟨B', 0, none⟩)) hsel hfr hC (by kernel_rfl) (by decide) (fun _ _ _ h => hq _ _ _ _ _ h) (by rfl) (fun w => ?_) (by first | (right; assumption) | (left; kernel_rfl)) (fun hC2 => ?_)
  · go_simp
  clear hC
  have hC := hC2
  clear hC2
  (try (simp only [Act.put, k1, k2, k3]))
  refine mqa 33 rfl (.pointer (some ⟨B', 19, none⟩)) hsel hfr hC (by kernel_rfl) (by decide) (fun _ _ _ h => hq _ _ _ _ _ h) (by rfl) (fun w => ?_) (by first | (right; assumption) | (left; kernel_rfl)) (fun hC2 => ?_)
  · go_simp
  clear hC
  have hC := hC2
  clear hC2
  (try (simp only [Act.put, k1, k2, k3]))
  refine mqt 34 rfl [35, 37, 44, 46] (nvr) hsel hfr hC (by kernel_rfl) (by kernel_rfl) (fun _ _ _ h => hq _ _ _ _ _ h) (by rfl) (fun w hSw => ?_) (by assumption) (fun hC2 => ?_)
  · (try dsimp only at hSw)
    have x19 : w.cell? ⟨B', 19, none⟩ = some (nvr) := hSw.hr.row.cell_ (i := 19) rfl
    go_simp
  clear hC
  have hC := hC2
  clear hC2
  (try (simp only [Act.put, k1, k2, k3]))
  refine mqc 35 rfl hC (by kernel_rfl) (by rfl) (fun K hK => ?_)
  go_simp
  refine (same_notes nvp nvr r'.ns _ HRD1.out.hp.notes.list HRD1.out.hr.notes.list hns).mono ?_
  rintro e w16 ⟨rfl, hO⟩
  have HRD2 := Lib.hid (HRD1.out.keep hO)
  refine hK.out _ _ (.inr HRD2.out) (fun hC2 => ?_)
  have hHeld2 := HRD2.out
  clear hK K hHeld hO HRD1 hC
  have hC := hC2
  clear hC2
  have HRD1 := HRD2
  have hHeld := hHeld2
  clear HRD2 hHeld2
  refine mqa 36 rfl (.bool true) hsel hfr hC (by kernel_rfl) (by decide) (fun _ _ _ h => hq _ _ _ _ _ h) (by rfl) (fun w => ?_) (by first | (right; assumption) | (left; kernel_rfl)) (fun hC2 => ?_)
  · go_simp
  clear hC
  have hC := hC2
  clear hC2
  (try (simp only [Act.put, k1, k2, k3]))
  refine mqa 37 rfl (.bool true) hsel hfr hC (by kernel_rfl) (by decide) (fun _ _ _ h => hq _ _ _ _ _ h) (by rfl) (fun w => ?_) (by first | (right; assumption) | (left; kernel_rfl)) (fun hC2 => ?_)
  · go_simp
  clear hC
  have hC := hC2
  clear hC2
  (try (simp only [Act.put, k1, k2, k3]))
  refine mqa 38 rfl (.pointer (some ⟨b, 0, none⟩)) hsel hfr hC (by kernel_rfl) (by decide) (fun _ _ _ h => hq _ _ _ _ _ h) (by rfl) (fun w => ?_) (by first | (right; assumption) | (left; kernel_rfl)) (fun hC2 => ?_)
  · go_simp
  clear hC
  have hC := hC2
  clear hC2
  (try (simp only [Act.put, k1, k2, k3]))
  refine mqa 40 rfl (.pointer (some ⟨B', 0, none⟩)) hsel hfr hC (by kernel_rfl) (by decide) (fun _ _ _ h => hq _ _ _ _ _ h) (by rfl) (fun w => ?_) (by first | (right; assumption) | (left; kernel_rfl)) (fun hC2 => ?_)
  · go_simp
  clear hC
  have hC := hC2
  clear hC2
  (try (simp only [Act.put, k1, k2, k3]))
  refine mqa 41 rfl (.pointer (some ⟨B', 0, none⟩)) hsel hfr hC (by kernel_rfl) (by decide) (fun _ _ _ h => hq _ _ _ _ _ h) (by rfl) (fun w => ?_) (by first | (right; assumption) | (left; kernel_rfl)) (fun hC2 => ?_)
  · go_simp
  clear hC
  have hC := hC2
  clear hC2
  (try (simp only [Act.put, k1, k2, k3]))
  refine mqa 42 rfl (.pointer (some ⟨B', 0, none⟩)) hsel hfr hC (by kernel_rfl) (by decide) (fun _ _ _ h => hq _ _ _ _ _ h) (by rfl) (fun w => ?_) (by first | (right; assumption) | (left; kernel_rfl)) (fun hC2 => ?_)
  · go_simp
  clear hC
  have hC := hC2
  clear hC2
  (try (simp only [Act.put, k1, k2, k3]))
  refine mqt 43 rfl [44, 46] (.slice A2 l c2) hsel hfr hC (by kernel_rfl) (by kernel_rfl) (fun _ _ _ h => hq _ _ _ _ _ h) (by rfl) (fun w hSw => ?_) (by assumption) (fun hC2 => ?_)
  · (try dsimp only at hSw)
    have x0 : w.cell? ⟨B', 0, none⟩ = some (.slice A2 l c2) := hSw.hr.row.cell_ (i := 0) rfl
    go_simp
  clear hC
  have hC := hC2
  clear hC2
  (try (simp only [Act.put, k1, k2, k3]))
  refine mqc 39 rfl hC (by kernel_rfl) (by rfl) (fun K hK => ?_)
  go_simp
  refine (all_n b A' c' l r'.xs _ HRD1.out.hp.memo.mem HRD1.out.hr.len).mono ?_
  intro e w17 hF
  obtain ⟨A6, c6, rfl, hOwn, hO⟩ := hF
  have HW6 := Lib.hid hOwn
  clear hOwn
  have HRD2 := Lib.hid (HRD1.out.keep hO)
  refine hK.out _ _ (.inr HRD2.out) (fun hC2 => ?_)
  have hHeld2 := HRD2.out
  clear hK K hHeld hO HRD1 hC
  have hC := hC2
  clear hC2
  have HRD1 := HRD2
  have hHeld := hHeld2
  clear HRD2 hHeld2
  refine mqc 44 rfl hC (by kernel_rfl) (by rfl) (fun K hK => ?_)
  go_simp
  refine (same_n A6 A2 c6 c2 l r'.xs r'.xs _ (HW6.out.held_n HRD1.out.hr.len) (HRD1.out.hr.own.held_n HRD1.out.hr.len) (by omega)).mono ?_
  rw [show decide (r'.xs = r'.xs) = true by simp]
  rintro e w18 ⟨rfl, hO⟩
  have HRD2 := Lib.hid (HRD1.out.keep hO)
  refine hK.out _ _ (.inr HRD2.out) (fun hC2 => ?_)
  have hHeld2 := HRD2.out
  clear hK K hHeld hO HRD1 hC
  have hC := hC2
  clear hC2
  have HRD1 := HRD2
  have hHeld := hHeld2
  clear HRD2 hHeld2
  refine mqa 45 rfl (.bool true) hsel hfr hC (by kernel_rfl) (by decide) (fun _ _ _ h => hq _ _ _ _ _ h) (by rfl) (fun w => ?_) (by first | (right; assumption) | (left; kernel_rfl)) (fun hC2 => ?_)
  · go_simp
  clear hC
  have hC := hC2
  clear hC2
  (try (simp only [Act.put, k1, k2, k3]))
  refine mqa 46 rfl (.bool true) hsel hfr hC (by kernel_rfl) (by decide) (fun _ _ _ h => hq _ _ _ _ _ h) (by rfl) (fun w => ?_) (by first | (right; assumption) | (left; kernel_rfl)) (fun hC2 => ?_)
  · go_simp
  clear hC
  have hC := hC2
  clear hC2
  (try (simp only [Act.put, k1, k2, k3]))
  refine mqc 47 rfl hC (by kernel_rfl) (by rfl) (fun K hK => ?_)
  go_simp
  refine (awake_any _).mono ?_
  rintro e w19 ⟨rfl, hO⟩
  have HT9 := Lib.hid (HRD1.out.keep hO)
  refine hK.out _ _ (.inl (by kernel_rfl)) (fun hC2 => ?_)
  clear hK K hHeld hO HRD1 hC
  have hC := hC2
  clear hC2
  refine mqa 48 rfl (.bool true) hsel hfr hC (by kernel_rfl) (by decide) (fun _ _ _ h => hq _ _ _ _ _ h) (by rfl) (fun w => ?_) (by first | (right; assumption) | (left; kernel_rfl)) (fun hC2 => ?_)
  · go_simp
  clear hC
  have hC := hC2
  clear hC2
  (try (simp only [Act.put, k1, k2, k3]))
  refine mqa 49 rfl (.bool true) hsel hfr hC (by kernel_rfl) (by decide) (fun _ _ _ h => hq _ _ _ _ _ h) (by rfl) (fun w => ?_) (by first | (right; assumption) | (left; kernel_rfl)) (fun hC2 => ?_)
  · go_simp
  clear hC
  have hC := hC2
  clear hC2
  (try (simp only [Act.put, k1, k2, k3]))
  refine wpAnyP_done (by kernel_rfl) ?_ _
  exact h _ _ _ _ _ _ _ _ _ _ _ _ _ _ _ _ _ _ _ _ _ _ _ _ _ _ _ _ _ _ _ _ _ _ _ _ _ _ _ _ _ _ _ _ _ _ _ _ _ w19 HT9.out.only
end Go.Proofs.YtaeninikaalkjaaGreat
