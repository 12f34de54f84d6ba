/- LineSame, LineSteps. -/
import Derived.Test.YtomgjamojeejbaaM11
import Derived.Test.YtomgjamojeejbaaM10
import Derived.Test.YtomgjamojeejbaaM6
import Derived.Test.YtomgjamojeejbaaM7
/- LineSteps: what a round compares. -/
set_option linter.unusedVariables false
set_option linter.unusedSimpArgs false
namespace Go.Proofs.Ytomgjamojeejbaa
open Go.RowKit
/-- The region numbered so. -/
def codeOps (n : Nat) : Code → Option (Array Oper)
  | .region id ops _ => if id = n then some ops else none
  | .seq a b => (match codeOps n a with | some o => some o | none => codeOps n b)
  | .cond _ t e => (match codeOps n t with | some o => some o | none => codeOps n e)
  | .block _ b => codeOps n b
  | .loop b => codeOps n b
  | .scope b => codeOps n b
  | _ => none
def regOps (f : Func) (n : Nat) : Array Oper := match f.body with | some c => (codeOps n c).getD #[] | none => #[]
theorem exec_load {P : Program} {a : Act} {o : Oper} {ty t : TypeId} {x : Operand} {B : Nat} {w : World} {cs : Array Value} {d : TypeDesc} (ho : o.op = .load ty x) (hx : a.eval x = .pointer (some ⟨B, 0, none⟩)) (hg : Row w B t cs)
    (hu : P.underlying ty = some d) (hd : (match d with | .struct _ | .array _ _ => true | _ => false) = true) (hi : (P.info? ty).map (·.size) = some cs.size) : (execOp a.eval o).run P w = .ok (.value (.agg cs)) w := by
  have h := run_loadVar_row (P := P) w B t ty cs (0, 0) d hg hu hd hi
  unfold execOp
  simp [ho, hx, Instr.loadAt, Instr.sureAddr, h]
theorem sel18 : Region.noSelect (regOps Try.f3 18) = true := by kernel_rfl
theorem free18 : freeB .any (regOps Try.f3 18) = true := by kernel_rfl
theorem reg_intro2 {P : Program} {Q : Exit → Act → World → Prop} {a : Act} {w : World} {id : Nat} {ops ops' : Array Oper} (h : ops = ops') (hs : Region.noSelect ops = true) (hf : freeB .any ops = true) (k : Region.noSelect ops' = true → freeB .any ops' = true → (Code.region id ops' true).wp P Q a w) : (Code.region id ops true).wp P Q a w := by subst h; exact k hs hf
theorem reg_intro {P : Program} {Q : Exit → Act → World → Prop} {a : Act} {w : World} {id : Nat} {ops ops' : Array Oper} (h : ops = ops') (k : (Code.region id ops' true).wp P Q a w) : (Code.region id ops true).wp P Q a w := by subst h; exact k

set_option maxRecDepth 100000 in
set_option maxHeartbeats 8000000 in
/-- What the round compares is alike. -/
theorem round_same {K : Act → World → Prop} {Q' : Exit → Act → World → Prop} (x0 x1 x2 x3 x4 x5 x6 x7 x8 x9 x10 x11 x12 x14 x17 x22 x23 x24 x25 x26 x27 x28 x29 x30 x31 x32 x33 x34 x35 x36 x37 x38 x39 x40 x41 x42 x43 x44 x45 x46 x47 x48 x49 x50 x51 x52 x53 x54 x55 x56 x57 x58 x59 x60 x61 x62 x63 x64 x65 x66 x67 x68 x69 x70 x71 x72 x73 x74 x75 x76 x77 x78 x79 x80 x81 x82 x83 x84 x85 x86 x87 x88 x89 x90 x91 x92 x93 x94 x95 x96 x97 x98 x99 x100 x101 x102 x103 x104 x105 x106 x107 x108 x109 x110 x111 x112 x113 x114 x115 x116 x117 x118 x119 x120 x121 x122 x123 x124 x125 x126 x127 x128 x129 x130 x131 x132 x133 x134 x135 x136 x137 x138 x139 x140 x141 x142 x143 x144 x145 x146 x147 x148 x149 x150 x151 x152 x153 x154 x155 x156 x157 x158 x159 x160 x161 x162 x163 x164 : Value) (w w12 : World) (B B' M b l c' c2 bs qs g11 g17 g18 sl sc k n3 c3 c4 Na Nb : Nat) (A' A2 A3 A4 : Option Addr) (nvp nvr : Value) (r' : LS) (outs : List Int) (sk : Bool) (n mode task : Int)
    (HRD : Hid (RD w B B' M (some ⟨b, 0, none⟩) A' A2 c' l c2 nvp nvr r' g11 g17 g18 (some ⟨bs, qs, none⟩) sl sc k A3 n3 c3 A4 c4 outs Na Nb w12)) (HSK : Hid (r'.stuck = sk)) (HK4 : Hid (r'.n = n ∧ r'.mode = mode ∧ r'.task = task ∧ Words r'.xs ∧ r'.ns.length ≤ 10 ∧ n3 ≤ 1000)) (hl : l ≤ 1024)
    (hq : ∀ c a (d : Tmp) v w, Q' (.panic c) (a.put (some d) v) w → Q' (.panic c) a w) (h : ∀ (v101 v102 v103 v104 v105 v106 v107 v108 v109 v110 v111 v112 v113 v114 v115 v116 v117 v118 v119 v120 v121 v122 v123 v124 v125 v126 v127 v128 v129 v130 v131 v132 v133 v134 v135 v136 v137 v138 v139 v140 v141 v142 v143 v144 v145 v146 v147 v148 v149 v150 v151 v152 v153 v154 v155 v156 v157 v158 v159 v160 v161 : Value) (w' : World), Two w B B' M (some ⟨b, 0, none⟩) A' A2 c' l c2 nvp nvr r' r' w' → RowsL w' [(g11, 30, #[.slice (some ⟨bs, qs, none⟩) sl sc]), (g17, 3, #[.int .i64 k]), (g18, 22, #[.slice A3 n3 c3])] → K ⟨#[x0, x1, x2, x3, x4, x5, x6, x7, x8, x9, x10, x11, x12, .pointer (some ⟨b, 0, none⟩), x14, .pointer (some ⟨B, 0, none⟩), .pointer (some ⟨B', 0, none⟩), x17, .pointer (some ⟨g18, 0, none⟩), .slice A4 n3 c4, .bool r'.over, .bool sk, x22, x23, x24, x25, x26, x27, x28, x29, x30, x31, x32, x33, x34, x35, x36, x37, x38, x39, x40, x41, x42, x43, x44, x45, x46, x47, x48, x49, x50, x51, x52, x53, x54, x55, x56, x57, x58, x59, x60, x61, x62, x63, x64, x65, x66, x67, x68, x69, x70, x71, x72, x73, x74, x75, x76, x77, x78, x79, x80, x81, x82, x83, x84, x85, x86, x87, x88, x89, x90, x91, x92, x93, x94, x95, x96, x97, x98, x99, x100, v101, v102, v103, v104, v105, v106, v107, v108, v109, v110, v111, v112, v113, v114, v115, v116, v117, v118, v119, v120, v121, v122, v123, v124, v125, v126, v127, v128, v129, v130, v131, v132, v133, v134, v135, v136, v137, v138, v139, v140, v141, v142, v143, v144, v145, v146, v147, v148, v149, v150, v151, v152, v153, v154, v155, v156, v157, v158, v159, v160, v161, .bool false, x163, x164], []⟩ w') :
    (Code.region 18 (regOps Try.f3 18) true).wp Try.prog (Exit.then K Q') ⟨#[x0, x1, x2, x3, x4, x5, x6, x7, x8, x9, x10, x11, x12, .pointer (some ⟨b, 0, none⟩), x14, .pointer (some ⟨B, 0, none⟩), .pointer (some ⟨B', 0, none⟩), x17, .pointer (some ⟨g18, 0, none⟩), .slice A4 n3 c4, .bool r'.over, .bool sk, x22, x23, x24, x25, x26, x27, x28, x29, x30, x31, x32, x33, x34, x35, x36, x37, x38, x39, x40, x41, x42, x43, x44, x45, x46, x47, x48, x49, x50, x51, x52, x53, x54, x55, x56, x57, x58, x59, x60, x61, x62, x63, x64, x65, x66, x67, x68, x69, x70, x71, x72, x73, x74, x75, x76, x77, x78, x79, x80, x81, x82, x83, x84, x85, x86, x87, x88, x89, x90, x91, x92, x93, x94, x95, x96, x97, x98, x99, x100, x101, x102, x103, x104, x105, x106, x107, x108, x109, x110, x111, x112, x113, x114, x115, x116, x117, x118, x119, x120, x121, x122, x123, x124, x125, x126, x127, x128, x129, x130, x131, x132, x133, x134, x135, x136, x137, x138, x139, x140, x141, x142, x143, x144, x145, x146, x147, x148, x149, x150, x151, x152, x153, x154, x155, x156, x157, x158, x159, x160, x161, x162, x163, x164], []⟩ w12 := by
  have hfr0 := free18
  have hsel0 := sel18
  refine reg_intro2 (rfl : _ = List.toArray (_ :: _ :: _ :: _ :: _ :: _ :: _ :: _ :: _ :: _ :: _ :: _ :: _ :: _ :: _ :: _ :: _ :: _ :: _ :: _ :: _ :: _ :: _ :: _ :: _ :: _ :: _ :: _ :: _ :: _ :: _ :: _ :: _ :: _ :: _ :: _ :: _ :: _ :: _ :: _ :: _ :: _ :: _ :: _ :: _ :: _ :: _ :: _ :: _ :: _ :: _ :: _ :: _ :: _ :: _ :: _ :: _ :: _ :: _ :: _ :: _ :: _ :: [])) hsel0 hfr0 (fun hsel hfr => ?_)
  clear hfr0 hsel0
  refine wp_region_phase (n := 62) 58 (fun W => RD w B B' M (some ⟨b, 0, none⟩) A' A2 c' l c2 nvp nvr r' g11 g17 g18 (some ⟨bs, qs, none⟩) sl sc k A3 n3 c3 A4 c4 outs Na Nb W) rfl (by kernel_rfl) (HRD.out.keep (Only.refl Nil w12).drew) (fun hHeld => ?_)
  have HRD1 := Lib.hid (HRD.out.keep (Only.refl Nil w12).drew)
  clear HRD
  generalize w12.drew = w13 at *
  refine with_cl (fun hC => ?_)
  refine qa_0 rfl rfl (.bool r'.over) hsel hfr hC (by kernel_rfl) (by decide) (fun _ _ _ h => hq _ _ _ _ _ h) (by rfl) (fun w => ?_) (by first | (right; assumption) | (left; kernel_rfl)) (fun hC2 => ?_)
  · go_simp
  clear hC
  have hC := hC2
  clear hC2
  (try simp only [Act.put, List.setIfInBounds_toArray, List.set_cons_zero, List.set_cons_succ])
  refine qa_1 rfl rfl (.pointer (some ⟨B', 0, none⟩)) hsel hfr hC (by kernel_rfl) (by decide) (fun _ _ _ h => hq _ _ _ _ _ h) (by rfl) (fun w => ?_) (by first | (right; assumption) | (left; kernel_rfl)) (fun hC2 => ?_)
  · go_simp
  clear hC
  have hC := hC2
  clear hC2
  (try simp only [Act.put, List.setIfInBounds_toArray, List.set_cons_zero, List.set_cons_succ])
  refine qc_2 rfl rfl hC (by kernel_rfl) (by rfl) (fun K hK => ?_)
  go_simp
  refine (rover_run B' M A2 l c2 nvr r' _ HRD1.out.two.hr).mono ?_
  rintro e w14 ⟨rfl, hw⟩
  have hO : Only Nil w13 w14 := hw ▸ Only.refl Nil w13
  clear hw
  have HRD2 := Lib.hid (HRD1.out.keep hO)
  refine hK.out _ _ (.inr HRD2.out) (fun hC2 => ?_)
  have hHeld2 := HRD2.out
  clear hK K hHeld hO HRD1 hC
  have hC := hC2
  clear hC2
  have HRD1 := HRD2
  have hHeld := hHeld2
  clear HRD2 hHeld2
  (try simp only [Act.put, List.setIfInBounds_toArray, List.set_cons_zero, List.set_cons_succ])
  refine qa_3 rfl rfl (.bool false) hsel hfr hC (by kernel_rfl) (by decide) (fun _ _ _ h => hq _ _ _ _ _ h) (by rfl) (fun w => ?_) (by first | (right; assumption) | (left; kernel_rfl)) (fun hC2 => ?_)
  · go_simp
  clear hC
  have hC := hC2
  clear hC2
  (try simp only [Act.put, List.setIfInBounds_toArray, List.set_cons_zero, List.set_cons_succ])
  refine qa_4 rfl rfl (.bool false) hsel hfr hC (by kernel_rfl) (by decide) (fun _ _ _ h => hq _ _ _ _ _ h) (by rfl) (fun w => ?_) (by first | (right; assumption) | (left; kernel_rfl)) (fun hC2 => ?_)
  · go_simp
  clear hC
  have hC := hC2
  clear hC2
  (try simp only [Act.put, List.setIfInBounds_toArray, List.set_cons_zero, List.set_cons_succ])
  refine qt_5 rfl rfl [7, 10, 21, 32, 41, 44, 51, 54] (.slice A3 n3 c3) hsel hfr hC (by kernel_rfl) (by kernel_rfl) (fun _ _ _ h => hq _ _ _ _ _ h) (by rfl) (fun w hSw => ?_) (by assumption) (fun hC2 => ?_)
  · (try dsimp only at hSw)
    have x0 : w.cell? ⟨g18, 0, none⟩ = some (.slice A3 n3 c3) := (show Row w g18 22 _ from hSw.rows _ (.tail _ (.tail _ (.head _)))).cell_ (i := 0) rfl
    go_simp
  clear hC
  have hC := hC2
  clear hC2
  (try simp only [Act.put, List.setIfInBounds_toArray, List.set_cons_zero, List.set_cons_succ])
  refine qa_6 rfl rfl (.slice A4 n3 c4) hsel hfr hC (by kernel_rfl) (by decide) (fun _ _ _ h => hq _ _ _ _ _ h) (by rfl) (fun w => ?_) (by first | (right; assumption) | (left; kernel_rfl)) (fun hC2 => ?_)
  · go_simp
  clear hC
  have hC := hC2
  clear hC2
  (try simp only [Act.put, List.setIfInBounds_toArray, List.set_cons_zero, List.set_cons_succ])
  refine qc_7 rfl rfl hC (by kernel_rfl) (by rfl) (fun K hK => ?_)
  go_simp
  refine (same_n A3 A4 c3 c4 n3 outs outs _ (HRD1.out.a.held_n HRD1.out.len) (HRD1.out.b.held_n HRD1.out.len) (by have := HK4.out.2.2.2.2.2; omega)).mono ?_
  rw [show decide (outs = outs) = true by simp]
  rintro e w15 ⟨rfl, hO⟩
  have HRD2 := Lib.hid (HRD1.out.keep hO)
  refine hK.out _ _ (.inr HRD2.out) (fun hC2 => ?_)
  have hHeld2 := HRD2.out
  clear hK K hHeld hO HRD1 hC
  have hC := hC2
  clear hC2
  have HRD1 := HRD2
  have hHeld := hHeld2
  clear HRD2 hHeld2
  (try simp only [Act.put, List.setIfInBounds_toArray, List.set_cons_zero, List.set_cons_succ])
  refine qa_8 rfl rfl (.bool false) hsel hfr hC (by kernel_rfl) (by decide) (fun _ _ _ h => hq _ _ _ _ _ h) (by rfl) (fun w => ?_) (by first | (right; assumption) | (left; kernel_rfl)) (fun hC2 => ?_)
  · go_simp
  clear hC
  have hC := hC2
  clear hC2
  (try simp only [Act.put, List.setIfInBounds_toArray, List.set_cons_zero, List.set_cons_succ])
  refine qa_9 rfl rfl (.bool false) hsel hfr hC (by kernel_rfl) (by decide) (fun _ _ _ h => hq _ _ _ _ _ h) (by rfl) (fun w => ?_) (by first | (right; assumption) | (left; kernel_rfl)) (fun hC2 => ?_)
  · go_simp
  clear hC
  have hC := hC2
  clear hC2
  (try simp only [Act.put, List.setIfInBounds_toArray, List.set_cons_zero, List.set_cons_succ])
  refine qa_10 rfl rfl (.bool false) hsel hfr hC (by kernel_rfl) (by decide) (fun _ _ _ h => hq _ _ _ _ _ h) (by rfl) (fun w => ?_) (by first | (right; assumption) | (left; kernel_rfl)) (fun hC2 => ?_)
  · go_simp
  clear hC
  have hC := hC2
  clear hC2
  (try simp only [Act.put, List.setIfInBounds_toArray, List.set_cons_zero, List.set_cons_succ])
  refine qa_11 rfl rfl (.pointer (some ⟨B, 0, none⟩)) hsel hfr hC (by kernel_rfl) (by decide) (fun _ _ _ h => hq _ _ _ _ _ h) (by rfl) (fun w => ?_) (by first | (right; assumption) | (left; kernel_rfl)) (fun hC2 => ?_)
  · go_simp
  clear hC
  have hC := hC2
  clear hC2
  (try simp only [Act.put, List.setIfInBounds_toArray, List.set_cons_zero, List.set_cons_succ])
  refine qa_12 rfl rfl (.pointer (some ⟨B, 0, none⟩)) hsel hfr hC (by kernel_rfl) (by decide) (fun _ _ _ h => hq _ _ _ _ _ h) (by rfl) (fun w => ?_) (by first | (right; assumption) | (left; kernel_rfl)) (fun hC2 => ?_)
  · go_simp
  clear hC
  have hC := hC2
  clear hC2
  (try simp only [Act.put, List.setIfInBounds_toArray, List.set_cons_zero, List.set_cons_succ])
  refine qa_13 rfl rfl (.pointer (some ⟨B, 4, none⟩)) hsel hfr hC (by kernel_rfl) (by decide) (fun _ _ _ h => hq _ _ _ _ _ h) (by rfl) (fun w => ?_) (by first | (right; assumption) | (left; kernel_rfl)) (fun hC2 => ?_)
  · go_simp
  clear hC
  have hC := hC2
  clear hC2
  (try simp only [Act.put, List.setIfInBounds_toArray, List.set_cons_zero, List.set_cons_succ])
  refine qt_14 rfl rfl [19, 20, 21, 32, 41, 44, 51, 54] (.agg #[.int .i64 r'.op, .int .i64 r'.line, .int .u32 r'.a, .int .u32 r'.b, .int .i64 r'.s, .bool r'.k.on, .int .i64 r'.k.c, .int .i64 r'.k.i, .bool r'.k.hit, .int .i64 r'.ret]) hsel hfr hC (by kernel_rfl) (by kernel_rfl) (fun _ _ _ h => hq _ _ _ _ _ h) (by rfl) (fun w hSw => ?_) (by assumption) (fun hC2 => ?_)
  · (try dsimp only at hSw)
    have x4 : w.cell? ⟨B, 4, none⟩ = some (.int .i64 r'.op) := hSw.two.hp.row.cell_ (i := 4) rfl
    have x5 : w.cell? ⟨B, 5, none⟩ = some (.int .i64 r'.line) := hSw.two.hp.row.cell_ (i := 5) rfl
    have x6 : w.cell? ⟨B, 6, none⟩ = some (.int .u32 r'.a) := hSw.two.hp.row.cell_ (i := 6) rfl
    have x7 : w.cell? ⟨B, 7, none⟩ = some (.int .u32 r'.b) := hSw.two.hp.row.cell_ (i := 7) rfl
    have x8 : w.cell? ⟨B, 8, none⟩ = some (.int .i64 r'.s) := hSw.two.hp.row.cell_ (i := 8) rfl
    have x9 : w.cell? ⟨B, 9, none⟩ = some (.bool r'.k.on) := hSw.two.hp.row.cell_ (i := 9) rfl
    have x10 : w.cell? ⟨B, 10, none⟩ = some (.int .i64 r'.k.c) := hSw.two.hp.row.cell_ (i := 10) rfl
    have x11 : w.cell? ⟨B, 11, none⟩ = some (.int .i64 r'.k.i) := hSw.two.hp.row.cell_ (i := 11) rfl
    have x12 : w.cell? ⟨B, 12, none⟩ = some (.bool r'.k.hit) := hSw.two.hp.row.cell_ (i := 12) rfl
    have x13 : w.cell? ⟨B, 13, none⟩ = some (.int .i64 r'.ret) := hSw.two.hp.row.cell_ (i := 13) rfl
    go_simp
  clear hC
  have hC := hC2
  clear hC2
  (try simp only [Act.put, List.setIfInBounds_toArray, List.set_cons_zero, List.set_cons_succ])
  refine qa_15 rfl rfl (.pointer (some ⟨B', 0, none⟩)) hsel hfr hC (by kernel_rfl) (by decide) (fun _ _ _ h => hq _ _ _ _ _ h) (by rfl) (fun w => ?_) (by first | (right; assumption) | (left; kernel_rfl)) (fun hC2 => ?_)
  · go_simp
  clear hC
  have hC := hC2
  clear hC2
  (try simp only [Act.put, List.setIfInBounds_toArray, List.set_cons_zero, List.set_cons_succ])
  refine qa_16 rfl rfl (.pointer (some ⟨B', 0, none⟩)) hsel hfr hC (by kernel_rfl) (by decide) (fun _ _ _ h => hq _ _ _ _ _ h) (by rfl) (fun w => ?_) (by first | (right; assumption) | (left; kernel_rfl)) (fun hC2 => ?_)
  · go_simp
  clear hC
  have hC := hC2
  clear hC2
  (try simp only [Act.put, List.setIfInBounds_toArray, List.set_cons_zero, List.set_cons_succ])
  refine qa_17 rfl rfl (.pointer (some ⟨B', 4, none⟩)) hsel hfr hC (by kernel_rfl) (by decide) (fun _ _ _ h => hq _ _ _ _ _ h) (by rfl) (fun w => ?_) (by first | (right; assumption) | (left; kernel_rfl)) (fun hC2 => ?_)
  · go_simp
  clear hC
  have hC := hC2
  clear hC2
  (try simp only [Act.put, List.setIfInBounds_toArray, List.set_cons_zero, List.set_cons_succ])
  refine qt_18 rfl rfl [19, 20, 21, 32, 41, 44, 51, 54] (.agg #[.int .i64 r'.op, .int .i64 r'.line, .int .u32 r'.a, .int .u32 r'.b, .int .i64 r'.s, .bool r'.k.on, .int .i64 r'.k.c, .int .i64 r'.k.i, .bool r'.k.hit, .int .i64 r'.ret]) hsel hfr hC (by kernel_rfl) (by kernel_rfl) (fun _ _ _ h => hq _ _ _ _ _ h) (by rfl) (fun w hSw => ?_) (by assumption) (fun hC2 => ?_)
  · (try dsimp only at hSw)
    have x4 : w.cell? ⟨B', 4, none⟩ = some (.int .i64 r'.op) := hSw.two.hr.row.cell_ (i := 4) rfl
    have x5 : w.cell? ⟨B', 5, none⟩ = some (.int .i64 r'.line) := hSw.two.hr.row.cell_ (i := 5) rfl
    have x6 : w.cell? ⟨B', 6, none⟩ = some (.int .u32 r'.a) := hSw.two.hr.row.cell_ (i := 6) rfl
    have x7 : w.cell? ⟨B', 7, none⟩ = some (.int .u32 r'.b) := hSw.two.hr.row.cell_ (i := 7) rfl
    have x8 : w.cell? ⟨B', 8, none⟩ = some (.int .i64 r'.s) := hSw.two.hr.row.cell_ (i := 8) rfl
    have x9 : w.cell? ⟨B', 9, none⟩ = some (.bool r'.k.on) := hSw.two.hr.row.cell_ (i := 9) rfl
    have x10 : w.cell? ⟨B', 10, none⟩ = some (.int .i64 r'.k.c) := hSw.two.hr.row.cell_ (i := 10) rfl
    have x11 : w.cell? ⟨B', 11, none⟩ = some (.int .i64 r'.k.i) := hSw.two.hr.row.cell_ (i := 11) rfl
    have x12 : w.cell? ⟨B', 12, none⟩ = some (.bool r'.k.hit) := hSw.two.hr.row.cell_ (i := 12) rfl
    have x13 : w.cell? ⟨B', 13, none⟩ = some (.int .i64 r'.ret) := hSw.two.hr.row.cell_ (i := 13) rfl
    go_simp
  clear hC
  have hC := hC2
  clear hC2
  (try simp only [Act.put, List.setIfInBounds_toArray, List.set_cons_zero, List.set_cons_succ])
  refine qa_19 rfl rfl (.bool false) hsel hfr hC (by kernel_rfl) (by decide) (fun _ _ _ h => hq _ _ _ _ _ h) (by rfl) (fun w => ?_) (by first | (right; assumption) | (left; kernel_rfl)) (fun hC2 => ?_)
  · go_simp
  clear hC
  have hC := hC2
  clear hC2
  (try simp only [Act.put, List.setIfInBounds_toArray, List.set_cons_zero, List.set_cons_succ])
  refine qa_20 rfl rfl (.bool false) hsel hfr hC (by kernel_rfl) (by decide) (fun _ _ _ h => hq _ _ _ _ _ h) (by rfl) (fun w => ?_) (by first | (right; assumption) | (left; kernel_rfl)) (fun hC2 => ?_)
  · go_simp
  clear hC
  have hC := hC2
  clear hC2
  (try simp only [Act.put, List.setIfInBounds_toArray, List.set_cons_zero, List.set_cons_succ])
  refine qa_21 rfl rfl (.bool false) hsel hfr hC (by kernel_rfl) (by decide) (fun _ _ _ h => hq _ _ _ _ _ h) (by rfl) (fun w => ?_) (by first | (right; assumption) | (left; kernel_rfl)) (fun hC2 => ?_)
  · go_simp
  clear hC
  have hC := hC2
  clear hC2
  (try simp only [Act.put, List.setIfInBounds_toArray, List.set_cons_zero, List.set_cons_succ])
  refine qa_22 rfl rfl (.pointer (some ⟨B, 0, none⟩)) hsel hfr hC (by kernel_rfl) (by decide) (fun _ _ _ h => hq _ _ _ _ _ h) (by rfl) (fun w => ?_) (by first | (right; assumption) | (left; kernel_rfl)) (fun hC2 => ?_)
  · go_simp
  clear hC
  have hC := hC2
  clear hC2
  (try simp only [Act.put, List.setIfInBounds_toArray, List.set_cons_zero, List.set_cons_succ])
  refine qa_23 rfl rfl (.pointer (some ⟨B, 0, none⟩)) hsel hfr hC (by kernel_rfl) (by decide) (fun _ _ _ h => hq _ _ _ _ _ h) (by rfl) (fun w => ?_) (by first | (right; assumption) | (left; kernel_rfl)) (fun hC2 => ?_)
  · go_simp
  clear hC
  have hC := hC2
  clear hC2
  (try simp only [Act.put, List.setIfInBounds_toArray, List.set_cons_zero, List.set_cons_succ])
  refine qa_24 rfl rfl (.pointer (some ⟨B, 14, none⟩)) hsel hfr hC (by kernel_rfl) (by decide) (fun _ _ _ h => hq _ _ _ _ _ h) (by rfl) (fun w => ?_) (by first | (right; assumption) | (left; kernel_rfl)) (fun hC2 => ?_)
  · go_simp
  clear hC
  have hC := hC2
  clear hC2
  (try simp only [Act.put, List.setIfInBounds_toArray, List.set_cons_zero, List.set_cons_succ])
  refine qt_25 rfl rfl [30, 31, 32, 41, 44, 51, 54] (.agg #[.int .i64 r'.acc.k, .int .i64 r'.acc.c, .int .u32 r'.acc.x, .int .u32 r'.acc.y, .int .u32 r'.acc.o]) hsel hfr hC (by kernel_rfl) (by kernel_rfl) (fun _ _ _ h => hq _ _ _ _ _ h) (by rfl) (fun w hSw => ?_) (by assumption) (fun hC2 => ?_)
  · (try dsimp only at hSw)
    have x14 : w.cell? ⟨B, 14, none⟩ = some (.int .i64 r'.acc.k) := hSw.two.hp.row.cell_ (i := 14) rfl
    have x15 : w.cell? ⟨B, 15, none⟩ = some (.int .i64 r'.acc.c) := hSw.two.hp.row.cell_ (i := 15) rfl
    have x16 : w.cell? ⟨B, 16, none⟩ = some (.int .u32 r'.acc.x) := hSw.two.hp.row.cell_ (i := 16) rfl
    have x17 : w.cell? ⟨B, 17, none⟩ = some (.int .u32 r'.acc.y) := hSw.two.hp.row.cell_ (i := 17) rfl
    have x18 : w.cell? ⟨B, 18, none⟩ = some (.int .u32 r'.acc.o) := hSw.two.hp.row.cell_ (i := 18) rfl
    go_simp
  clear hC
  have hC := hC2
  clear hC2
  (try simp only [Act.put, List.setIfInBounds_toArray, List.set_cons_zero, List.set_cons_succ])
  refine qa_26 rfl rfl (.pointer (some ⟨B', 0, none⟩)) hsel hfr hC (by kernel_rfl) (by decide) (fun _ _ _ h => hq _ _ _ _ _ h) (by rfl) (fun w => ?_) (by first | (right; assumption) | (left; kernel_rfl)) (fun hC2 => ?_)
  · go_simp
  clear hC
  have hC := hC2
  clear hC2
  (try simp only [Act.put, List.setIfInBounds_toArray, List.set_cons_zero, List.set_cons_succ])
  refine qa_27 rfl rfl (.pointer (some ⟨B', 0, none⟩)) hsel hfr hC (by kernel_rfl) (by decide) (fun _ _ _ h => hq _ _ _ _ _ h) (by rfl) (fun w => ?_) (by first | (right; assumption) | (left; kernel_rfl)) (fun hC2 => ?_)
  · go_simp
  clear hC
  have hC := hC2
  clear hC2
  (try simp only [Act.put, List.setIfInBounds_toArray, List.set_cons_zero, List.set_cons_succ])
  refine qa_28 rfl rfl (.pointer (some ⟨B', 14, none⟩)) hsel hfr hC (by kernel_rfl) (by decide) (fun _ _ _ h => hq _ _ _ _ _ h) (by rfl) (fun w => ?_) (by first | (right; assumption) | (left; kernel_rfl)) (fun hC2 => ?_)
  · go_simp
  clear hC
  have hC := hC2
  clear hC2
  (try simp only [Act.put, List.setIfInBounds_toArray, List.set_cons_zero, List.set_cons_succ])
  refine qt_29 rfl rfl [30, 31, 32, 41, 44, 51, 54] (.agg #[.int .i64 r'.acc.k, .int .i64 r'.acc.c, .int .u32 r'.acc.x, .int .u32 r'.acc.y, .int .u32 r'.acc.o]) hsel hfr hC (by kernel_rfl) (by kernel_rfl) (fun _ _ _ h => hq _ _ _ _ _ h) (by rfl) (fun w hSw => ?_) (by assumption) (fun hC2 => ?_)
  · (try dsimp only at hSw)
    have x14 : w.cell? ⟨B', 14, none⟩ = some (.int .i64 r'.acc.k) := hSw.two.hr.row.cell_ (i := 14) rfl
    have x15 : w.cell? ⟨B', 15, none⟩ = some (.int .i64 r'.acc.c) := hSw.two.hr.row.cell_ (i := 15) rfl
    have x16 : w.cell? ⟨B', 16, none⟩ = some (.int .u32 r'.acc.x) := hSw.two.hr.row.cell_ (i := 16) rfl
    have x17 : w.cell? ⟨B', 17, none⟩ = some (.int .u32 r'.acc.y) := hSw.two.hr.row.cell_ (i := 17) rfl
    have x18 : w.cell? ⟨B', 18, none⟩ = some (.int .u32 r'.acc.o) := hSw.two.hr.row.cell_ (i := 18) rfl
    go_simp
  clear hC
  have hC := hC2
  clear hC2
  (try simp only [Act.put, List.setIfInBounds_toArray, List.set_cons_zero, List.set_cons_succ])
  refine qa_30 rfl rfl (.bool false) hsel hfr hC (by kernel_rfl) (by decide) (fun _ _ _ h => hq _ _ _ _ _ h) (by rfl) (fun w => ?_) (by first | (right; assumption) | (left; kernel_rfl)) (fun hC2 => ?_)
  · go_simp
  clear hC
  have hC := hC2
  clear hC2
  (try simp only [Act.put, List.setIfInBounds_toArray, List.set_cons_zero, List.set_cons_succ])
  refine qa_31 rfl rfl (.bool false) hsel hfr hC (by kernel_rfl) (by decide) (fun _ _ _ h => hq _ _ _ _ _ h) (by rfl) (fun w => ?_) (by first | (right; assumption) | (left; kernel_rfl)) (fun hC2 => ?_)
  · go_simp
  clear hC
  have hC := hC2
  clear hC2
  (try simp only [Act.put, List.setIfInBounds_toArray, List.set_cons_zero, List.set_cons_succ])
  refine qa_32 rfl rfl (.bool false) hsel hfr hC (by kernel_rfl) (by decide) (fun _ _ _ h => hq _ _ _ _ _ h) (by rfl) (fun w => ?_) (by first | (right; assumption) | (left; kernel_rfl)) (fun hC2 => ?_)
  · go_simp
  clear hC
  have hC := hC2
  clear hC2
  (try simp only [Act.put, List.setIfInBounds_toArray, List.set_cons_zero, List.set_cons_succ])
  refine qa_33 rfl rfl (.pointer (some ⟨B, 0, none⟩)) hsel hfr hC (by kernel_rfl) (by decide) (fun _ _ _ h => hq _ _ _ _ _ h) (by rfl) (fun w => ?_) (by first | (right; assumption) | (left; kernel_rfl)) (fun hC2 => ?_)
  · go_simp
  clear hC
  have hC := hC2
  clear hC2
  (try simp only [Act.put, List.setIfInBounds_toArray, List.set_cons_zero, List.set_cons_succ])
  refine qa_34 rfl rfl (.pointer (some ⟨B, 0, none⟩)) hsel hfr hC (by kernel_rfl) (by decide) (fun _ _ _ h => hq _ _ _ _ _ h) (by rfl) (fun w => ?_) (by first | (right; assumption) | (left; kernel_rfl)) (fun hC2 => ?_)
  · go_simp
  clear hC
  have hC := hC2
  clear hC2
  (try simp only [Act.put, List.setIfInBounds_toArray, List.set_cons_zero, List.set_cons_succ])
  refine qa_35 rfl rfl (.pointer (some ⟨B, 19, none⟩)) hsel hfr hC (by kernel_rfl) (by decide) (fun _ _ _ h => hq _ _ _ _ _ h) (by rfl) (fun w => ?_) (by first | (right; assumption) | (left; kernel_rfl)) (fun hC2 => ?_)
  · go_simp
  clear hC
  have hC := hC2
  clear hC2
  (try simp only [Act.put, List.setIfInBounds_toArray, List.set_cons_zero, List.set_cons_succ])
  refine qt_36 rfl rfl [41, 44, 51, 54] (nvp) hsel hfr hC (by kernel_rfl) (by kernel_rfl) (fun _ _ _ h => hq _ _ _ _ _ h) (by rfl) (fun w hSw => ?_) (by assumption) (fun hC2 => ?_)
  · (try dsimp only at hSw)
    have x19 : w.cell? ⟨B, 19, none⟩ = some (nvp) := hSw.two.hp.row.cell_ (i := 19) rfl
    go_simp
  clear hC
  have hC := hC2
  clear hC2
  (try simp only [Act.put, List.setIfInBounds_toArray, List.set_cons_zero, List.set_cons_succ])
  refine qa_37 rfl rfl (.pointer (some ⟨B', 0, none⟩)) hsel hfr hC (by kernel_rfl) (by decide) (fun _ _ _ h => hq _ _ _ _ _ h) (by rfl) (fun w => ?_) (by first | (right; assumption) | (left; kernel_rfl)) (fun hC2 => ?_)
  · go_simp
  clear hC
  have hC := hC2
  clear hC2
  (try simp only [Act.put, List.setIfInBounds_toArray, List.set_cons_zero, List.set_cons_succ])
  refine qa_38 rfl rfl (.pointer (some ⟨B', 0, none⟩)) hsel hfr hC (by kernel_rfl) (by decide) (fun _ _ _ h => hq _ _ _ _ _ h) (by rfl) (fun w => ?_) (by first | (right; assumption) | (left; kernel_rfl)) (fun hC2 => ?_)
  · go_simp
  clear hC
  have hC := hC2
  clear hC2
  (try simp only [Act.put, List.setIfInBounds_toArray, List.set_cons_zero, List.set_cons_succ])
  refine qa_39 rfl rfl (.pointer (some ⟨B', 19, none⟩)) hsel hfr hC (by kernel_rfl) (by decide) (fun _ _ _ h => hq _ _ _ _ _ h) (by rfl) (fun w => ?_) (by first | (right; assumption) | (left; kernel_rfl)) (fun hC2 => ?_)
  · go_simp
  clear hC
  have hC := hC2
  clear hC2
  (try simp only [Act.put, List.setIfInBounds_toArray, List.set_cons_zero, List.set_cons_succ])
  refine qt_40 rfl rfl [41, 44, 51, 54] (nvr) hsel hfr hC (by kernel_rfl) (by kernel_rfl) (fun _ _ _ h => hq _ _ _ _ _ h) (by rfl) (fun w hSw => ?_) (by assumption) (fun hC2 => ?_)
  · (try dsimp only at hSw)
    have x19 : w.cell? ⟨B', 19, none⟩ = some (nvr) := hSw.two.hr.row.cell_ (i := 19) rfl
    go_simp
  clear hC
  have hC := hC2
  clear hC2
  (try simp only [Act.put, List.setIfInBounds_toArray, List.set_cons_zero, List.set_cons_succ])
  refine qc_41 rfl rfl hC (by kernel_rfl) (by rfl) (fun K hK => ?_)
  go_simp
  refine (same_notes nvp nvr r'.ns _ HRD1.out.two.hp.notes.list HRD1.out.two.hr.notes.list (by have := HK4.out.2.2.2.2.1; omega)).mono ?_
  rintro e w16 ⟨rfl, hO⟩
  have HRD2 := Lib.hid (HRD1.out.keep hO)
  refine hK.out _ _ (.inr HRD2.out) (fun hC2 => ?_)
  have hHeld2 := HRD2.out
  clear hK K hHeld hO HRD1 hC
  have hC := hC2
  clear hC2
  have HRD1 := HRD2
  have hHeld := hHeld2
  clear HRD2 hHeld2
  (try simp only [Act.put, List.setIfInBounds_toArray, List.set_cons_zero, List.set_cons_succ])
  refine qa_42 rfl rfl (.bool false) hsel hfr hC (by kernel_rfl) (by decide) (fun _ _ _ h => hq _ _ _ _ _ h) (by rfl) (fun w => ?_) (by first | (right; assumption) | (left; kernel_rfl)) (fun hC2 => ?_)
  · go_simp
  clear hC
  have hC := hC2
  clear hC2
  (try simp only [Act.put, List.setIfInBounds_toArray, List.set_cons_zero, List.set_cons_succ])
  refine qa_43 rfl rfl (.bool false) hsel hfr hC (by kernel_rfl) (by decide) (fun _ _ _ h => hq _ _ _ _ _ h) (by rfl) (fun w => ?_) (by first | (right; assumption) | (left; kernel_rfl)) (fun hC2 => ?_)
  · go_simp
  clear hC
  have hC := hC2
  clear hC2
  (try simp only [Act.put, List.setIfInBounds_toArray, List.set_cons_zero, List.set_cons_succ])
  refine qa_44 rfl rfl (.bool false) hsel hfr hC (by kernel_rfl) (by decide) (fun _ _ _ h => hq _ _ _ _ _ h) (by rfl) (fun w => ?_) (by first | (right; assumption) | (left; kernel_rfl)) (fun hC2 => ?_)
  · go_simp
  clear hC
  have hC := hC2
  clear hC2
  (try simp only [Act.put, List.setIfInBounds_toArray, List.set_cons_zero, List.set_cons_succ])
  refine qa_45 rfl rfl (.pointer (some ⟨b, 0, none⟩)) hsel hfr hC (by kernel_rfl) (by decide) (fun _ _ _ h => hq _ _ _ _ _ h) (by rfl) (fun w => ?_) (by first | (right; assumption) | (left; kernel_rfl)) (fun hC2 => ?_)
  · go_simp
  clear hC
  have hC := hC2
  clear hC2
  (try simp only [Act.put, List.setIfInBounds_toArray, List.set_cons_zero, List.set_cons_succ])
  refine qa_47 rfl rfl (.pointer (some ⟨B', 0, none⟩)) hsel hfr hC (by kernel_rfl) (by decide) (fun _ _ _ h => hq _ _ _ _ _ h) (by rfl) (fun w => ?_) (by first | (right; assumption) | (left; kernel_rfl)) (fun hC2 => ?_)
  · go_simp
  clear hC
  have hC := hC2
  clear hC2
  (try simp only [Act.put, List.setIfInBounds_toArray, List.set_cons_zero, List.set_cons_succ])
  refine qa_48 rfl rfl (.pointer (some ⟨B', 0, none⟩)) hsel hfr hC (by kernel_rfl) (by decide) (fun _ _ _ h => hq _ _ _ _ _ h) (by rfl) (fun w => ?_) (by first | (right; assumption) | (left; kernel_rfl)) (fun hC2 => ?_)
  · go_simp
  clear hC
  have hC := hC2
  clear hC2
  (try simp only [Act.put, List.setIfInBounds_toArray, List.set_cons_zero, List.set_cons_succ])
  refine qa_49 rfl rfl (.pointer (some ⟨B', 0, none⟩)) hsel hfr hC (by kernel_rfl) (by decide) (fun _ _ _ h => hq _ _ _ _ _ h) (by rfl) (fun w => ?_) (by first | (right; assumption) | (left; kernel_rfl)) (fun hC2 => ?_)
  · go_simp
  clear hC
  have hC := hC2
  clear hC2
  (try simp only [Act.put, List.setIfInBounds_toArray, List.set_cons_zero, List.set_cons_succ])
  refine qt_50 rfl rfl [51, 54] (.slice A2 l c2) hsel hfr hC (by kernel_rfl) (by kernel_rfl) (fun _ _ _ h => hq _ _ _ _ _ h) (by rfl) (fun w hSw => ?_) (by assumption) (fun hC2 => ?_)
  · (try dsimp only at hSw)
    have x0 : w.cell? ⟨B', 0, none⟩ = some (.slice A2 l c2) := hSw.two.hr.row.cell_ (i := 0) rfl
    go_simp
  clear hC
  have hC := hC2
  clear hC2
  (try simp only [Act.put, List.setIfInBounds_toArray, List.set_cons_zero, List.set_cons_succ])
  refine qc_46 rfl rfl hC (by kernel_rfl) (by rfl) (fun K hK => ?_)
  go_simp
  refine (all_n b A' c' l r'.xs _ HRD1.out.two.hp.memo.mem HRD1.out.two.hr.len).mono ?_
  intro e w17 hF
  obtain ⟨A6, c6, rfl, hOwn, hO⟩ := hF
  have HW6 := Lib.hid hOwn
  clear hOwn
  have HRD2 := Lib.hid (HRD1.out.keep hO)
  refine hK.out _ _ (.inr HRD2.out) (fun hC2 => ?_)
  have hHeld2 := HRD2.out
  clear hK K hHeld hO HRD1 hC
  have hC := hC2
  clear hC2
  have HRD1 := HRD2
  have hHeld := hHeld2
  clear HRD2 hHeld2
  (try simp only [Act.put, List.setIfInBounds_toArray, List.set_cons_zero, List.set_cons_succ])
  refine qc_51 rfl rfl hC (by kernel_rfl) (by rfl) (fun K hK => ?_)
  go_simp
  refine (same_n A6 A2 c6 c2 l r'.xs r'.xs _ (HW6.out.held_n HRD1.out.two.hr.len) (HRD1.out.two.hr.own.held_n HRD1.out.two.hr.len) (by omega)).mono ?_
  rw [show decide (r'.xs = r'.xs) = true by simp]
  rintro e w18 ⟨rfl, hO⟩
  have HRD2 := Lib.hid (HRD1.out.keep hO)
  refine hK.out _ _ (.inr HRD2.out) (fun hC2 => ?_)
  have hHeld2 := HRD2.out
  clear hK K hHeld hO HRD1 hC
  have hC := hC2
  clear hC2
  have HRD1 := HRD2
  have hHeld := hHeld2
  clear HRD2 hHeld2
  (try simp only [Act.put, List.setIfInBounds_toArray, List.set_cons_zero, List.set_cons_succ])
  refine qa_52 rfl rfl (.bool false) hsel hfr hC (by kernel_rfl) (by decide) (fun _ _ _ h => hq _ _ _ _ _ h) (by rfl) (fun w => ?_) (by first | (right; assumption) | (left; kernel_rfl)) (fun hC2 => ?_)
  · go_simp
  clear hC
  have hC := hC2
  clear hC2
  (try simp only [Act.put, List.setIfInBounds_toArray, List.set_cons_zero, List.set_cons_succ])
  refine qa_53 rfl rfl (.bool false) hsel hfr hC (by kernel_rfl) (by decide) (fun _ _ _ h => hq _ _ _ _ _ h) (by rfl) (fun w => ?_) (by first | (right; assumption) | (left; kernel_rfl)) (fun hC2 => ?_)
  · go_simp
  clear hC
  have hC := hC2
  clear hC2
  (try simp only [Act.put, List.setIfInBounds_toArray, List.set_cons_zero, List.set_cons_succ])
  refine qa_54 rfl rfl (.bool false) hsel hfr hC (by kernel_rfl) (by decide) (fun _ _ _ h => hq _ _ _ _ _ h) (by rfl) (fun w => ?_) (by first | (right; assumption) | (left; kernel_rfl)) (fun hC2 => ?_)
  · go_simp
  clear hC
  have hC := hC2
  clear hC2
  (try simp only [Act.put, List.setIfInBounds_toArray, List.set_cons_zero, List.set_cons_succ])
  refine qa_55 rfl rfl (.pointer (some ⟨B, 0, none⟩)) hsel hfr hC (by kernel_rfl) (by decide) (fun _ _ _ h => hq _ _ _ _ _ h) (by rfl) (fun w => ?_) (by first | (right; assumption) | (left; kernel_rfl)) (fun hC2 => ?_)
  · go_simp
  clear hC
  have hC := hC2
  clear hC2
  (try simp only [Act.put, List.setIfInBounds_toArray, List.set_cons_zero, List.set_cons_succ])
  refine qa_56 rfl rfl (.pointer (some ⟨B, 0, none⟩)) hsel hfr hC (by kernel_rfl) (by decide) (fun _ _ _ h => hq _ _ _ _ _ h) (by rfl) (fun w => ?_) (by first | (right; assumption) | (left; kernel_rfl)) (fun hC2 => ?_)
  · go_simp
  clear hC
  have hC := hC2
  clear hC2
  (try simp only [Act.put, List.setIfInBounds_toArray, List.set_cons_zero, List.set_cons_succ])
  refine qt_57 rfl rfl [] (.agg (r'.cells (.pointer (some ⟨b, 0, none⟩)) nvp)) hsel hfr hC (by kernel_rfl) (by kernel_rfl) (fun _ _ _ h => hq _ _ _ _ _ h) (by rfl) (fun w hSw => exec_load (ty := 43) (x := .tmp 157) rfl (by rfl) hSw.two.hp.row Try.underlying43 rfl (by kernel_rfl)) (by assumption) (fun hC2 => ?_)
  clear hC
  have hC := hC2
  clear hC2
  (try simp only [Act.put, List.setIfInBounds_toArray, List.set_cons_zero, List.set_cons_succ])
  refine qa_59 rfl rfl (.bool sk) hsel hfr hC (by kernel_rfl) (by decide) (fun _ _ _ h => hq _ _ _ _ _ h) (by rfl) (fun w => ?_) (by first | (right; assumption) | (left; kernel_rfl)) (fun hC2 => ?_)
  · go_simp
  clear hC
  have hC := hC2
  clear hC2
  (try simp only [Act.put, List.setIfInBounds_toArray, List.set_cons_zero, List.set_cons_succ])
  refine qc_58 rfl rfl hC (by kernel_rfl) (by rfl) (fun K hK => ?_)
  go_simp
  refine (stuckL_any (some ⟨b, 0, none⟩) A' c' nvp r' _ HRD1.out.two.hp.memo).mono ?_
  rw [HSK.out]
  rintro e w19 ⟨rfl, hO, hM⟩
  have HT9 := Lib.hid (HRD1.out.two.stuckd hO hM)
  have HROW9 := Lib.hid (RowsL.memo HRD1.out.rows HRD1.out.two.hp.memo hO (by simp))
  refine hK.out _ _ (.inl (by kernel_rfl)) (fun hC2 => ?_)
  clear hK K hHeld hO hM HRD1 hC
  have hC := hC2
  clear hC2
  (try simp only [Act.put, List.setIfInBounds_toArray, List.set_cons_zero, List.set_cons_succ])
  refine qa_60 rfl rfl (.bool false) hsel hfr hC (by kernel_rfl) (by decide) (fun _ _ _ h => hq _ _ _ _ _ h) (by rfl) (fun w => ?_) (by first | (right; assumption) | (left; kernel_rfl)) (fun hC2 => ?_)
  · go_simp
  clear hC
  have hC := hC2
  clear hC2
  (try simp only [Act.put, List.setIfInBounds_toArray, List.set_cons_zero, List.set_cons_succ])
  refine qa_61 rfl rfl (.bool false) hsel hfr hC (by kernel_rfl) (by decide) (fun _ _ _ h => hq _ _ _ _ _ h) (by rfl) (fun w => ?_) (by first | (right; assumption) | (left; kernel_rfl)) (fun hC2 => ?_)
  · go_simp
  clear hC
  have hC := hC2
  clear hC2
  (try simp only [Act.put, List.setIfInBounds_toArray, List.set_cons_zero, List.set_cons_succ])
  refine wpAnyP_done (by kernel_rfl) ?_ _
  exact h _ _ _ _ _ _ _ _ _ _ _ _ _ _ _ _ _ _ _ _ _ _ _ _ _ _ _ _ _ _ _ _ _ _ _ _ _ _ _ _ _ _ _ _ _ _ _ _ _ _ _ _ _ _ _ _ _ _ _ _ _ w19 HT9.out HROW9.out
end Go.Proofs.Ytomgjamojeejbaa
/- LineSteps: the walk. -/
set_option linter.unusedVariables false
set_option linter.unusedSimpArgs false
namespace Go.Proofs.Ytomgjamojeejbaa
open Go.RowKit

theorem lsteps_away (A0 : Option Addr) (l cap : Nat) (n mode task f0 f1 f2 f3 f4 : Int) (f5 : Bool) (f6 f7 : Int) (f8 : Bool) (f9 : Int) (SA : Option Addr) (sl sc : Nat) (w : World) (h : 1024 < l ∨ (l ≤ 1024 ∧ 20 < sl)) : Calls Try.prog 3 #[.slice A0 l cap, .int .i64 n, .int .i64 mode, .int .i64 task, .agg #[.int .i64 f0, .int .i64 f1, .int .u32 f2, .int .u32 f3, .int .i64 f4, .bool f5, .int .i64 f6, .int .i64 f7, .bool f8, .int .i64 f9], .slice SA sl sc] w fun e w' => e = .returned (.bool true) ∧ Only Nil w w' := by
  have HO := Lib.hid (((Only.refl Nil w).alloc (.cells #[.int .i64 f0, .int .i64 f1, .int .u32 f2, .int .u32 f3, .int .i64 f4, .bool f5, .int .i64 f6, .int .i64 f7, .bool f8, .int .i64 f9] 29)).alloc (.cells #[.slice SA sl sc] 30))
  rcases h with h | ⟨h1, h2⟩
  · have h' : (1024 : Int) < l := by omega
    go_enter Try.func3, Try.ntmps3
    go_wp2_with fail
    refine (awake_any _).mono ?_
    rintro e w1 ⟨rfl, hO⟩
    have HO1 := Lib.hid (HO.out.trans hO)
    clear hO
    go_wp2
    go_ret
    exact ⟨rfl, HO1.out⟩
  · have h1' : ¬ (1024 : Int) < l := by omega
    have h2' : (20 : Int) < sl := by omega
    go_enter Try.func3, Try.ntmps3
    go_wp2_with fail
    refine (awake_any _).mono ?_
    rintro e w1 ⟨rfl, hO⟩
    have HO1 := Lib.hid (HO.out.trans hO)
    clear hO
    go_wp2
    go_ret
    exact ⟨rfl, HO1.out⟩

-- TAIL BEGINS
-- TAIL ENDS
/-- Where the counter is. -/
def iOf (v : Value) (w : World) : Nat := match v with
  | .pointer (some a) => (match w.cell? a with | some (.int _ n) => n.toNat | _ => 0)
  | _ => 0
/-- Between the rounds. -/
structure LoopL (w0 : World) (B B' M : Nat) (p A A2 : Option Addr) (cp l c2 : Nat) (n mode task : Int) (g11 : Nat) (SA : Option Addr) (sl sc k g17 : Nat) (W : World) : Prop where
  two : ∃ nvp nvr rk, Two w0 B B' M p A A2 cp l c2 nvp nvr rk rk W ∧ rk.n = n ∧ rk.mode = mode ∧ rk.task = task ∧ Words rk.xs
  rows : RowsL W [(g11, 30, #[.slice SA sl sc]), (g17, 3, #[.int .i64 k])]

set_option maxRecDepth 100000 in
set_option maxHeartbeats 8000000 in
theorem lsteps_main (A0 : Option Addr) (l cap : Nat) (n mode task f0 f1 f2 f3 f4 : Int) (f5 : Bool) (f6 f7 : Int) (f8 : Bool) (f9 : Int) (SA : Option Addr) (sl sc : Nat) (w : World) (xs : List Int) (hr : IsRow .u32 w A0 l cap xs) (hs : IsSteps w SA sl) (hl : l ≤ 1024) (hsl : sl ≤ 20) : Calls Try.prog 3 #[.slice A0 l cap, .int .i64 n, .int .i64 mode, .int .i64 task, .agg #[.int .i64 f0, .int .i64 f1, .int .u32 f2, .int .u32 f3, .int .i64 f4, .bool f5, .int .i64 f6, .int .i64 f7, .bool f8, .int .i64 f9], .slice SA sl sc] w fun e w' => e = .returned (.bool true) ∧ Only Nil w w' := by
  have HR := Lib.hid hr
  have HS := Lib.hid hs
  have hl1 : ¬ (1024 : Int) < l := by omega
  have hs1 : ¬ (20 : Int) < sl := by omega
  have HO0 := Lib.hid (((Only.refl Nil w).alloc (.cells #[.int .i64 f0, .int .i64 f1, .int .u32 f2, .int .u32 f3, .int .i64 f4, .bool f5, .int .i64 f6, .int .i64 f7, .bool f8, .int .i64 f9] 29)).alloc (.cells #[.slice SA sl sc] 30))
  have HF0 := Lib.hid ((Row.new w 29 #[.int .i64 f0, .int .i64 f1, .int .u32 f2, .int .u32 f3, .int .i64 f4, .bool f5, .int .i64 f6, .int .i64 f7, .bool f8, .int .i64 f9]).alloc (.cells #[.slice SA sl sc] 30))
  have H110 := Lib.hid (Row.new2 w (.cells #[.int .i64 f0, .int .i64 f1, .int .u32 f2, .int .u32 f3, .int .i64 f4, .bool f5, .int .i64 f6, .int .i64 f7, .bool f8, .int .i64 f9] 29) 30 #[.slice SA sl sc])
  clear hr hs
  go_enter Try.func3, Try.ntmps3
  go_wp2_with fail
  generalize (w.alloc (.cells #[.int .i64 f0, .int .i64 f1, .int .u32 f2, .int .u32 f3, .int .i64 f4, .bool f5, .int .i64 f6, .int .i64 f7, .bool f8, .int .i64 f9] 29)).alloc (.cells #[.slice SA sl sc] 30) = w1 at *
  generalize w.heap.size = gf at *
  generalize hg11 : gf + 1 = g11 at *
  clear hg11 hl1 hs1
  refine (from_ok A0 l cap xs _ hl ((isRow_held HR.out).only HO0.out (fun _ _ => id))).mono ?_
  intro e w2 hF
  obtain ⟨b, A', c', rfl, hb, hA, hM, hO⟩ := hF
  have HM := Lib.hid (Memo.of hM)
  have HLT := Lib.hid (show ∀ j, At (some (⟨b, 0, none⟩ : Addr)) j ∨ At A' j → w.heap.size ≤ j ∧ j < w2.heap.size from fun j hj => by
    have hz := HO0.out.size
    refine ⟨?_, HM.out.lt j hj⟩
    rcases hj with ⟨a, ha, rfl⟩ | hj
    · cases ha; show w.heap.size ≤ b; omega
    · have := hA j hj; omega)
  have HO1 := Lib.hid (HO0.out.trans hO)
  have HF1 := Lib.hid (HF0.out.only hO id)
  have H111 := Lib.hid (H110.out.only hO id)
  clear hb hA hM hO HO0 HF0 H110
  have a0 : w2.cell? ⟨gf, 0, none⟩ = some (.int .i64 f0) := HF1.out.cell_ (i := 0) rfl
  have a1 : w2.cell? ⟨gf, 1, none⟩ = some (.int .i64 f1) := HF1.out.cell_ (i := 1) rfl
  have a2 : w2.cell? ⟨gf, 2, none⟩ = some (.int .u32 f2) := HF1.out.cell_ (i := 2) rfl
  have a3 : w2.cell? ⟨gf, 3, none⟩ = some (.int .u32 f3) := HF1.out.cell_ (i := 3) rfl
  have a4 : w2.cell? ⟨gf, 4, none⟩ = some (.int .i64 f4) := HF1.out.cell_ (i := 4) rfl
  have a5 : w2.cell? ⟨gf, 5, none⟩ = some (.bool f5) := HF1.out.cell_ (i := 5) rfl
  have a6 : w2.cell? ⟨gf, 6, none⟩ = some (.int .i64 f6) := HF1.out.cell_ (i := 6) rfl
  have a7 : w2.cell? ⟨gf, 7, none⟩ = some (.int .i64 f7) := HF1.out.cell_ (i := 7) rfl
  have a8 : w2.cell? ⟨gf, 8, none⟩ = some (.bool f8) := HF1.out.cell_ (i := 8) rfl
  have a9 : w2.cell? ⟨gf, 9, none⟩ = some (.int .i64 f9) := HF1.out.cell_ (i := 9) rfl
  go_upto_region 7 with (fail)
  clear a0 a1 a2 a3 a4 a5 a6 a7 a8 a9
  have e0 := (Only.refl Nil w2).alloc (.cells #[.pointer (some ⟨b, 0, none⟩), .int .i64 n, .int .i64 mode, .int .i64 task, .int .i64 f0, .int .i64 f1, .int .u32 f2, .int .u32 f3, .int .i64 f4, .bool f5, .int .i64 f6, .int .i64 f7, .bool f8, .int .i64 f9, .int .i64 0, .int .i64 0, .int .u32 0, .int .u32 0, .int .u32 0, .slice none 0 0] 43)
  have HP : Hid (RunP (w2.alloc (.cells #[.pointer (some ⟨b, 0, none⟩), .int .i64 n, .int .i64 mode, .int .i64 task, .int .i64 f0, .int .i64 f1, .int .u32 f2, .int .u32 f3, .int .i64 f4, .bool f5, .int .i64 f6, .int .i64 f7, .bool f8, .int .i64 f9, .int .i64 0, .int .i64 0, .int .u32 0, .int .u32 0, .int .u32 0, .slice none 0 0] 43)) w2.heap.size (some ⟨b, 0, none⟩) A' c' (.slice none 0 0) (⟨n, mode, task, f0, f1, f2, f3, f4, ⟨f5, f6, f7, f8⟩, f9, acc0, [], xs⟩ : LS)) :=
    Lib.hid ⟨Row.new w2 43 _, ownN_nil _ _, HM.out.keep e0⟩
  have HO2 := Lib.hid (HO1.out.trans e0)
  have HF2 := Lib.hid (HF1.out.only e0 id)
  have H112 := Lib.hid (H111.out.only e0 id)
  have HBB := Lib.hid (show w.heap.size ≤ w2.heap.size from HO1.out.size)
  have HZ := Lib.hid (show w2.heap.size ≤ (w2.alloc (.cells #[.pointer (some ⟨b, 0, none⟩), .int .i64 n, .int .i64 mode, .int .i64 task, .int .i64 f0, .int .i64 f1, .int .u32 f2, .int .u32 f3, .int .i64 f4, .bool f5, .int .i64 f6, .int .i64 f7, .bool f8, .int .i64 f9, .int .i64 0, .int .i64 0, .int .u32 0, .int .u32 0, .int .u32 0, .slice none 0 0] 43)).heap.size from e0.size)
  clear HM HO1 HF1 H111 e0
  generalize w2.alloc (.cells #[.pointer (some ⟨b, 0, none⟩), .int .i64 n, .int .i64 mode, .int .i64 task, .int .i64 f0, .int .i64 f1, .int .u32 f2, .int .u32 f3, .int .i64 f4, .bool f5, .int .i64 f6, .int .i64 f7, .bool f8, .int .i64 f9, .int .i64 0, .int .i64 0, .int .u32 0, .int .u32 0, .int .u32 0, .slice none 0 0] 43) = w3 at *
  generalize w2.heap.size = B at *
  refine wp_region_phase (n := 9) 7 (fun w => w.cell? ⟨gf, 0, none⟩ = some (.int .i64 f0) ∧ w.cell? ⟨gf, 1, none⟩ = some (.int .i64 f1) ∧ w.cell? ⟨gf, 2, none⟩ = some (.int .u32 f2) ∧ w.cell? ⟨gf, 3, none⟩ = some (.int .u32 f3) ∧ w.cell? ⟨gf, 4, none⟩ = some (.int .i64 f4) ∧ w.cell? ⟨gf, 5, none⟩ = some (.bool f5) ∧ w.cell? ⟨gf, 6, none⟩ = some (.int .i64 f6) ∧ w.cell? ⟨gf, 7, none⟩ = some (.int .i64 f7) ∧ w.cell? ⟨gf, 8, none⟩ = some (.bool f8) ∧ w.cell? ⟨gf, 9, none⟩ = some (.int .i64 f9)) rfl (by kernel_rfl)
    ⟨HF2.out.cell_ (i := 0) rfl, HF2.out.cell_ (i := 1) rfl, HF2.out.cell_ (i := 2) rfl, HF2.out.cell_ (i := 3) rfl, HF2.out.cell_ (i := 4) rfl, HF2.out.cell_ (i := 5) rfl, HF2.out.cell_ (i := 6) rfl, HF2.out.cell_ (i := 7) rfl, HF2.out.cell_ (i := 8) rfl, HF2.out.cell_ (i := 9) rfl⟩ (fun hHeld => ?_)
  have HP3 := Lib.hid (HP.out.keep (Only.refl Nil w3).drew)
  have HO3 := Lib.hid HO2.out.drew
  have HF3 := Lib.hid HF2.out.drew
  have H113 := Lib.hid H112.out.drew
  have HZ3 : Hid (B ≤ w3.drew.heap.size) := Lib.hid HZ.out
  clear HP HO2 HF2 H112 HZ
  generalize w3.drew = w4 at *
  refine pa_0 rfl rfl (.slice A0 l cap) (by kernel_rfl) (by kernel_rfl) (by kernel_rfl) (by decide) (by kernel_rfl) (fun _ _ _ h => h) (by rfl) (fun w => ?_) (by first | (right; assumption) | (left; kernel_rfl)) ?_
  · go_simp
  (try simp only [Act.put, List.setIfInBounds_toArray, List.set_cons_zero, List.set_cons_succ])
  refine pa_2 rfl rfl (.int .i64 n) (by kernel_rfl) (by kernel_rfl) (by kernel_rfl) (by decide) (by kernel_rfl) (fun _ _ _ h => h) (by rfl) (fun w => ?_) (by first | (right; assumption) | (left; kernel_rfl)) ?_
  · go_simp
  (try simp only [Act.put, List.setIfInBounds_toArray, List.set_cons_zero, List.set_cons_succ])
  refine pa_3 rfl rfl (.int .i64 mode) (by kernel_rfl) (by kernel_rfl) (by kernel_rfl) (by decide) (by kernel_rfl) (fun _ _ _ h => h) (by rfl) (fun w => ?_) (by first | (right; assumption) | (left; kernel_rfl)) ?_
  · go_simp
  (try simp only [Act.put, List.setIfInBounds_toArray, List.set_cons_zero, List.set_cons_succ])
  refine pa_4 rfl rfl (.int .i64 task) (by kernel_rfl) (by kernel_rfl) (by kernel_rfl) (by decide) (by kernel_rfl) (fun _ _ _ h => h) (by rfl) (fun w => ?_) (by first | (right; assumption) | (left; kernel_rfl)) ?_
  · go_simp
  (try simp only [Act.put, List.setIfInBounds_toArray, List.set_cons_zero, List.set_cons_succ])
  refine pt_5 rfl rfl 9 (.agg #[.int .i64 f0, .int .i64 f1, .int .u32 f2, .int .u32 f3, .int .i64 f4, .bool f5, .int .i64 f6, .int .i64 f7, .bool f8, .int .i64 f9]) (by kernel_rfl) (by kernel_rfl) (by kernel_rfl) (by kernel_rfl) (by kernel_rfl) (fun _ _ _ h => h) (by rfl) (fun w hSw => ?_) (by assumption) ?_
  · (try dsimp only at hSw)
    go_split_ands
    go_simp
  (try simp only [Act.put, List.setIfInBounds_toArray, List.set_cons_zero, List.set_cons_succ])
  refine pc_1 rfl rfl (by kernel_rfl) (by rfl) (fun K hK => ?_)
  go_simp
  refine (copy_n A0 l cap xs _ (by omega) ((isRow_held HR.out).only HO3.out (fun _ _ => id))).mono ?_
  intro e w5 hF
  obtain ⟨A2, c2, rfl, hOwn, hO⟩ := hF
  have HW5 := Lib.hid hOwn
  have HP5 := Lib.hid (HP3.out.keep hO)
  have HO5 := Lib.hid (HO3.out.trans hO)
  have HF5 := Lib.hid (HF3.out.only hO id)
  have H115 := Lib.hid (H113.out.only hO id)
  have HM5 := Lib.hid hO.size
  refine hK.out _ _ (.inr ⟨HF5.out.cell_ (i := 0) rfl, HF5.out.cell_ (i := 1) rfl, HF5.out.cell_ (i := 2) rfl, HF5.out.cell_ (i := 3) rfl, HF5.out.cell_ (i := 4) rfl, HF5.out.cell_ (i := 5) rfl, HF5.out.cell_ (i := 6) rfl, HF5.out.cell_ (i := 7) rfl, HF5.out.cell_ (i := 8) rfl, HF5.out.cell_ (i := 9) rfl⟩) ?_
  have hHeld2 : w5.cell? ⟨gf, 0, none⟩ = some (.int .i64 f0) ∧ w5.cell? ⟨gf, 1, none⟩ = some (.int .i64 f1) ∧ w5.cell? ⟨gf, 2, none⟩ = some (.int .u32 f2) ∧ w5.cell? ⟨gf, 3, none⟩ = some (.int .u32 f3) ∧ w5.cell? ⟨gf, 4, none⟩ = some (.int .i64 f4) ∧ w5.cell? ⟨gf, 5, none⟩ = some (.bool f5) ∧ w5.cell? ⟨gf, 6, none⟩ = some (.int .i64 f6) ∧ w5.cell? ⟨gf, 7, none⟩ = some (.int .i64 f7) ∧ w5.cell? ⟨gf, 8, none⟩ = some (.bool f8) ∧ w5.cell? ⟨gf, 9, none⟩ = some (.int .i64 f9) := ⟨HF5.out.cell_ (i := 0) rfl, HF5.out.cell_ (i := 1) rfl, HF5.out.cell_ (i := 2) rfl, HF5.out.cell_ (i := 3) rfl, HF5.out.cell_ (i := 4) rfl, HF5.out.cell_ (i := 5) rfl, HF5.out.cell_ (i := 6) rfl, HF5.out.cell_ (i := 7) rfl, HF5.out.cell_ (i := 8) rfl, HF5.out.cell_ (i := 9) rfl⟩
  clear hK K hHeld hO hOwn HP3 HO3 HF3 H113
  generalize hgM : w4.heap.size = M at *
  have HGM := Lib.hid hgM
  clear hgM
  (try simp only [Act.put, List.setIfInBounds_toArray, List.set_cons_zero, List.set_cons_succ])
  refine pa_6 rfl rfl (.agg #[.slice A2 l c2, .int .i64 n, .int .i64 mode, .int .i64 task, .int .i64 f0, .int .i64 f1, .int .u32 f2, .int .u32 f3, .int .i64 f4, .bool f5, .int .i64 f6, .int .i64 f7, .bool f8, .int .i64 f9, .int .i64 0, .int .i64 0, .int .u32 0, .int .u32 0, .int .u32 0, .slice none 0 0]) (by kernel_rfl) (by kernel_rfl) (by kernel_rfl) (by decide) (by kernel_rfl) (fun _ _ _ h => h) (by rfl) (fun w => ?_) (by first | (right; assumption) | (left; kernel_rfl)) ?_
  · go_simp
  (try simp only [Act.put, List.setIfInBounds_toArray, List.set_cons_zero, List.set_cons_succ])
  refine pc_7 rfl rfl (by kernel_rfl) (by rfl) (fun K hK => ?_)
  go_simp
  have e0 := (Only.refl Nil w5).alloc (.cells #[.slice A2 l c2, .int .i64 n, .int .i64 mode, .int .i64 task, .int .i64 f0, .int .i64 f1, .int .u32 f2, .int .u32 f3, .int .i64 f4, .bool f5, .int .i64 f6, .int .i64 f7, .bool f8, .int .i64 f9, .int .i64 0, .int .i64 0, .int .u32 0, .int .u32 0, .int .u32 0, .slice none 0 0] 47)
  have HT : Hid (Two w B w5.heap.size M (some ⟨b, 0, none⟩) A' A2 c' l c2 (.slice none 0 0) (.slice none 0 0) (⟨n, mode, task, f0, f1, f2, f3, f4, ⟨f5, f6, f7, f8⟩, f9, acc0, [], xs⟩ : LS) (⟨n, mode, task, f0, f1, f2, f3, f4, ⟨f5, f6, f7, f8⟩, f9, acc0, [], xs⟩ : LS) (w5.alloc (.cells #[.slice A2 l c2, .int .i64 n, .int .i64 mode, .int .i64 task, .int .i64 f0, .int .i64 f1, .int .u32 f2, .int .u32 f3, .int .i64 f4, .bool f5, .int .i64 f6, .int .i64 f7, .bool f8, .int .i64 f9, .int .i64 0, .int .i64 0, .int .u32 0, .int .u32 0, .int .u32 0, .slice none 0 0] 47))) :=
    Lib.hid ⟨HP5.out.keep e0, ⟨Row.new w5 47 _, ownN_nil _ _, HW5.out.only e0 (fun _ _ => id), HR.out.len_⟩, HO5.out.trans e0, HBB.out, HO5.out.size, fun j hj => by have := HLT.out j hj; have := HZ3.out; omega, by have := HBB.out; have := HZ3.out; omega⟩
  have H116 := Lib.hid (H115.out.only e0 id)
  refine hK.out _ _ (.inl (by kernel_rfl)) ?_
  clear hK K e0 hHeld2 HP5 HO5 HF5 H115 HW5 HM5 HBB HZ3 HLT HGM
  generalize w5.alloc (.cells #[.slice A2 l c2, .int .i64 n, .int .i64 mode, .int .i64 task, .int .i64 f0, .int .i64 f1, .int .u32 f2, .int .u32 f3, .int .i64 f4, .bool f5, .int .i64 f6, .int .i64 f7, .bool f8, .int .i64 f9, .int .i64 0, .int .i64 0, .int .u32 0, .int .u32 0, .int .u32 0, .slice none 0 0] 47) = w6 at *
  generalize w5.heap.size = B' at *
  (try simp only [Act.put, List.setIfInBounds_toArray, List.set_cons_zero, List.set_cons_succ])
  refine pa_8 rfl rfl (.pointer (some ⟨B', 0, none⟩)) (by kernel_rfl) (by kernel_rfl) (by kernel_rfl) (by decide) (by kernel_rfl) (fun _ _ _ h => h) (by rfl) (fun w => ?_) (by first | (right; assumption) | (left; kernel_rfl)) ?_
  · go_simp
  (try simp only [Act.put, List.setIfInBounds_toArray, List.set_cons_zero, List.set_cons_succ])
  refine wpAnyP_done (by kernel_rfl) ?_ _
  have e0 := (Only.refl Nil w6).alloc (.cells #[.int .i64 0] 3)
  have HL0 : Hid (LoopL w B B' M (some ⟨b, 0, none⟩) A' A2 c' l c2 n mode task g11 SA sl sc 0 w6.heap.size (w6.alloc (.cells #[.int .i64 0] 3))) :=
    Lib.hid ⟨⟨_, _, _, HT.out.keep e0, rfl, rfl, rfl, HR.out.wf⟩, RowsL.cons (L := [_]) (RowsL.cons (L := []) (fun _ h => by simp at h) (Row.new w6 3 #[.int .i64 0])) (H116.out.only e0 id)⟩
  clear HT H116 e0
  go_wp2_with fail
  go_loopw [17] (fun pv wr => ∃ k g17 : Nat, k ≤ sl ∧ pv = .pointer (some ⟨g17, 0, none⟩) ∧ Hid (LoopL w B B' M (some ⟨b, 0, none⟩) A' A2 c' l c2 n mode task g11 SA sl sc k g17 wr)) (fun pv wr => sl - iOf pv wr)
  case atStart => exact ⟨0, _, Nat.zero_le _, rfl, HL0⟩
  case round =>
    obtain ⟨k, g17, hk, rfl, HL⟩ := hrel
    clear HL0
    obtain ⟨⟨nvp, nvr, rk, hT, hn, hmo, hta, hwd⟩, hrows⟩ := HL.out
    have HT := Lib.hid hT
    have HROW := Lib.hid hrows
    have HNN := Lib.hid (⟨hn, hmo, hta, hwd⟩ : rk.n = n ∧ rk.mode = mode ∧ rk.task = task ∧ Words rk.xs)
    have h11 : Row wr g11 30 #[.slice SA sl sc] := hrows _ (.head _)
    have h17 : Row wr g17 3 #[.int .i64 k] := hrows _ (.tail _ (.head _))
    have HI0 : Hid (iOf (.pointer (some ⟨g17, 0, none⟩)) wr = k) := Lib.hid (by
      unfold iOf
      simp only [h17.cell_ (i := 0) rfl]
      exact Int.toNat_natCast k)
    have c11 : wr.cell? ⟨g11, 0, none⟩ = some (.slice SA sl sc) := h11.cell_ (i := 0) rfl
    have c17 : wr.cell? ⟨g17, 0, none⟩ = some (.int .i64 k) := h17.cell_ (i := 0) rfl
    clear hT hn hmo hta hwd hrows HL h11 h17
    by_cases hlt : k < sl
    · obtain ⟨bs, qs, AO, m, co, l0, rfl, hbs, hcell, hlen, hops, hwf⟩ := HS.out k hlt
      have ce : wr.cell? ⟨bs, qs + k, none⟩ = some (.slice AO m co) := (HT.out.only.cell (p := ⟨bs, qs + k, none⟩) hbs id).trans hcell
      have HEC := Lib.hid (⟨hbs, hcell⟩ : bs < w.heap.size ∧ w.cell? ⟨bs, qs + k, none⟩ = some (.slice AO m co))
      have HOPS := Lib.hid hops
      have HLEN := Lib.hid hlen
      have HWF := Lib.hid hwf
      clear hbs hcell hops hlen hwf
      by_cases hm : m ≤ 10
      · have hm1 : ¬ (10 : Int) < m := by omega
        go_wp2_with fail
        clear c11 c17 ce hm1
        have e1 := (Only.refl Nil wr).alloc (.cells #[.slice none 0 0] 22)
        have HT1 := Lib.hid (HT.out.keep e1)
        have H18 := Lib.hid (Row.new wr 22 #[.slice none 0 0])
        have HROW1 := Lib.hid (HROW.out.keep e1)
        have HG18 := Lib.hid HT.out.only.size
        clear HT HROW e1
        generalize wr.alloc (.cells #[.slice none 0 0] 22) = w7 at *
        generalize wr.heap.size = g18 at *
        have HK3 := Lib.hid (next_keeps rk l0 HWF.out (by rw [HLEN.out]; exact hm))
        cases hon : rk.k.on
        · have HON := Lib.hid hon
          rw [show rk.next l0 = (rk.fresh.opsI l0).1 from by unfold LS.next; rw [hon]; rfl] at HK3
          clear hon
          have hSt : ∀ w1, Only (· = B) w7 w1 → StI w.heap.size w7.heap.size g11 g17 g18 (some ⟨bs, qs, none⟩) sl sc k AO m co l0 w1 := fun w1 ho => by
            have hb := HT1.out.bB
            have hz := HT1.out.only.size
            have h11 : Row w7 g11 30 #[.slice (some ⟨bs, qs, none⟩) sl sc] := HROW1.out _ (.head _)
            have h17 : Row w7 g17 3 #[.int .i64 k] := HROW1.out _ (.tail _ (.head _))
            have hbs := HEC.out.1
            exact ⟨Nat.le_trans hz ho.size, ho.size, h11.only ho (row_ne h11 HT1.out.hp.row (by decide)), h17.only ho (row_ne h17 HT1.out.hp.row (by decide)), H18.out.only ho (row_ne H18.out HT1.out.hp.row (by decide)),
              ⟨bs, qs, rfl, ((ho.cell (p := ⟨bs, qs + k, none⟩) (by show bs < _; omega) (fun e => by have e : bs = B := e; omega)).trans (HT1.out.only.cell (p := ⟨bs, qs + k, none⟩) hbs id)).trans HEC.out.2⟩,
              (HOPS.out.only HT1.out.only (Nat.le_refl _) (fun _ _ => id)).only ho hz (fun j hj e => by have e : j = B := e; omega)⟩
          refine (step_lines B (some ⟨b, 0, none⟩) A' c' nvp _ rk _ _ _ _ _ HT1.out.hp HON.out (lined_steps B _ A' c' rk.fresh w.heap.size w7.heap.size g11 g17 g18 (some ⟨bs, qs, none⟩) sl sc k AO m co l0 hlt HLEN.out hm HWF.out HT1.out.bB (fun j hj => (HT1.out.bA j (.inr hj)).1) HNN.out.2.2.2 (Nat.zero_le _)) (.inl (.inl rfl)) hSt).mono ?_
          clear hSt
          intro e w8 hD
          obtain ⟨rfl, hO, ⟨A3, c3, h18, hown⟩, nvp2, hP⟩ := hD
          have HT2 := Lib.hid (HT1.out.prog H18.out hO (by decide) (by decide) (by decide) HG18.out hP)
          have HROW2 := Lib.hid (HROW1.out.prog HT1.out.hp H18.out hO (by simp))
          have H182 := Lib.hid h18
          have HA2 := Lib.hid hown
          have HNA := Lib.hid HT1.out.hr.own.lt
          have HWO := Lib.hid (show rk.fresh.xs = rk.xs from rfl)
          clear hO hP h18 hown HT1 HROW1 H18
          go_wp2_with fail
          refine (rwaking_off B' M A2 l c2 nvr rk _ HT2.out.hr HON.out).mono ?_
          intro e w9 hD
          obtain ⟨rfl, hO, nvr2, hR⟩ := hD
          have HT3 := Lib.hid (HT2.out.answ hO hR)
          have HROW3 := Lib.hid (HROW2.out.answ HT2.out.hr hO (by simp))
          have H183 := Lib.hid (RowsL.answ (L := [(g18, 22, _)]) (RowsL.cons (L := []) (fun _ h => by simp at h) H182.out) HT2.out.hr hO (by simp))
          have HA3 := Lib.hid (HA2.out.away HT2.out.hr.row (by decide) HNA.out hO)
          clear hO hR HT2 HROW2 H182 HA2
          have c11 : w9.cell? ⟨g11, 0, none⟩ = some (.slice (some ⟨bs, qs, none⟩) sl sc) := (show Row w9 g11 30 _ from HROW3.out _ (.head _)).cell_ (i := 0) rfl
          have c17 : w9.cell? ⟨g17, 0, none⟩ = some (.int .i64 k) := (show Row w9 g17 3 _ from HROW3.out _ (.tail _ (.head _))).cell_ (i := 0) rfl
          have ce : w9.cell? ⟨bs, qs + k, none⟩ = some (.slice AO m co) := (HT3.out.only.cell (p := ⟨bs, qs + k, none⟩) HEC.out.1 id).trans HEC.out.2
          go_wp2_with fail
          clear c11 c17 ce
          refine (plain_run B' M A2 l c2 nvr2 rk.fresh AO m co l0 w.heap.size _ HT3.out.hr HLEN.out hm (HOPS.out.only HT3.out.only (Nat.le_refl _) (fun _ _ => id)) HWF.out HT3.out.only.size HT3.out.bR (fun j hj => Nat.le_trans HT3.out.bM (HT3.out.hr.own.base j hj)) HNN.out.2.2.2 (Nat.zero_le _)).mono ?_
          rintro e w10 ⟨A4, c4, rfl, hown, hO, nvr3, hR⟩
          have HA4 := Lib.hid (HA3.out.away HT3.out.hr.row (by decide) HNA.out hO)
          have HRD : Hid (RD w B B' M (some ⟨b, 0, none⟩) A' A2 c' l c2 nvp2 nvr3 (rk.fresh.opsI l0).1 g11 g17 g18 (some ⟨bs, qs, none⟩) sl sc k A3 (rk.fresh.opsI l0).2.length c3 A4 c4 (rk.fresh.opsI l0).2 w7.heap.size w9.heap.size w10) :=
            Lib.hid ⟨HT3.out.answ hO hR, RowsL.answ (L := [_, _, _]) (RowsL.cons (L := [_, _]) (RowsL.cons (L := [_]) H183.out (HROW3.out _ (.tail _ (.head _)))) (HROW3.out _ (.head _))) HT3.out.hr hO (by simp), HA4.out, hown, rfl⟩
          clear hO hR hown HT3 HROW3 H183 HA3 HA4 HNA
          have HK4 := Lib.hid (show (rk.fresh.opsI l0).1.n = n ∧ (rk.fresh.opsI l0).1.mode = mode ∧ (rk.fresh.opsI l0).1.task = task ∧ Words (rk.fresh.opsI l0).1.xs ∧ (rk.fresh.opsI l0).1.ns.length ≤ 10 ∧ (rk.fresh.opsI l0).2.length ≤ 1000 from by
            obtain ⟨h1, h2, h3, h4, h5⟩ := HK3.out
            obtain ⟨g1, g2, g3, g4⟩ := HNN.out
            refine ⟨h1.trans g1, h2.trans g2, h3.trans g3, h4 g4, h5, ?_⟩
            have h6 := (ops_keeps rk.fresh l0 HWF.out l0.length (Nat.le_refl _)).2.2
            rw [List.take_length] at h6
            rw [h6]
            have := HLEN.out
            omega)
          clear HK3
          generalize hops : rk.fresh.opsI l0 = pr at *
          clear hops
          obtain ⟨r', outs⟩ := pr
          dsimp only at HRD HK4 ⊢
          generalize outs.length = n3 at *
          go_upto_region 17 with (fail)
          generalize w7.heap.size = Na at *
          generalize w9.heap.size = Nb at *
          cases hon2 : r'.k.on
          · have HON2 := Lib.hid hon2
            clear hon2
            refine wp_region_phase (n := 23) 20 (fun w => w.cell? ⟨B', 9, none⟩ = some (.bool false) ∧ w.cell? ⟨B', 0, none⟩ = some (.slice A2 l c2) ∧ w.cell? ⟨B', 8, none⟩ = some (.int .i64 r'.s)) rfl (by kernel_rfl) ⟨by rw [← HON2.out]; exact HRD.out.two.hr.row.cell_ (i := 9) rfl, HRD.out.two.hr.row.cell_ (i := 0) rfl, HRD.out.two.hr.row.cell_ (i := 8) rfl⟩ (fun hHeld => ?_)
            have HRD1 := Lib.hid (HRD.out.keep (Only.refl Nil w10).drew)
            clear HRD
            generalize w10.drew = w11 at *
            refine pa_0 rfl rfl (.pointer (some ⟨B', 0, none⟩)) (by kernel_rfl) (by kernel_rfl) (by kernel_rfl) (by decide) (by kernel_rfl) (fun _ _ _ h => h) (by rfl) (fun w => ?_) (by first | (right; assumption) | (left; kernel_rfl)) ?_
            · go_simp
            (try simp only [Act.put, List.setIfInBounds_toArray, List.set_cons_zero, List.set_cons_succ])
            refine pa_1 rfl rfl (.pointer (some ⟨B', 0, none⟩)) (by kernel_rfl) (by kernel_rfl) (by kernel_rfl) (by decide) (by kernel_rfl) (fun _ _ _ h => h) (by rfl) (fun w => ?_) (by first | (right; assumption) | (left; kernel_rfl)) ?_
            · go_simp
            (try simp only [Act.put, List.setIfInBounds_toArray, List.set_cons_zero, List.set_cons_succ])
            refine pa_2 rfl rfl (.pointer (some ⟨B', 4, none⟩)) (by kernel_rfl) (by kernel_rfl) (by kernel_rfl) (by decide) (by kernel_rfl) (fun _ _ _ h => h) (by rfl) (fun w => ?_) (by first | (right; assumption) | (left; kernel_rfl)) ?_
            · go_simp
            (try simp only [Act.put, List.setIfInBounds_toArray, List.set_cons_zero, List.set_cons_succ])
            refine pa_3 rfl rfl (.pointer (some ⟨B', 9, none⟩)) (by kernel_rfl) (by kernel_rfl) (by kernel_rfl) (by decide) (by kernel_rfl) (fun _ _ _ h => h) (by rfl) (fun w => ?_) (by first | (right; assumption) | (left; kernel_rfl)) ?_
            · go_simp
            (try simp only [Act.put, List.setIfInBounds_toArray, List.set_cons_zero, List.set_cons_succ])
            refine pa_4 rfl rfl (.pointer (some ⟨B', 9, none⟩)) (by kernel_rfl) (by kernel_rfl) (by kernel_rfl) (by decide) (by kernel_rfl) (fun _ _ _ h => h) (by rfl) (fun w => ?_) (by first | (right; assumption) | (left; kernel_rfl)) ?_
            · go_simp
            (try simp only [Act.put, List.setIfInBounds_toArray, List.set_cons_zero, List.set_cons_succ])
            refine pt_5 rfl rfl 9 (.bool false) (by kernel_rfl) (by kernel_rfl) (by kernel_rfl) (by kernel_rfl) (by kernel_rfl) (fun _ _ _ h => h) (by rfl) (fun w hSw => ?_) (by assumption) ?_
            · (try dsimp only at hSw)
              go_split_ands
              go_simp
            (try simp only [Act.put, List.setIfInBounds_toArray, List.set_cons_zero, List.set_cons_succ])
            refine pa_6 rfl rfl (.bool true) (by kernel_rfl) (by kernel_rfl) (by kernel_rfl) (by decide) (by kernel_rfl) (fun _ _ _ h => h) (by rfl) (fun w => ?_) (by first | (right; assumption) | (left; kernel_rfl)) ?_
            · go_simp
            (try simp only [Act.put, List.setIfInBounds_toArray, List.set_cons_zero, List.set_cons_succ])
            refine pa_7 rfl rfl (.bool true) (by kernel_rfl) (by kernel_rfl) (by kernel_rfl) (by decide) (by kernel_rfl) (fun _ _ _ h => h) (by rfl) (fun w => ?_) (by first | (right; assumption) | (left; kernel_rfl)) ?_
            · go_simp
            (try simp only [Act.put, List.setIfInBounds_toArray, List.set_cons_zero, List.set_cons_succ])
            refine pa_8 rfl rfl (.pointer (some ⟨B', 0, none⟩)) (by kernel_rfl) (by kernel_rfl) (by kernel_rfl) (by decide) (by kernel_rfl) (fun _ _ _ h => h) (by rfl) (fun w => ?_) (by first | (right; assumption) | (left; kernel_rfl)) ?_
            · go_simp
            (try simp only [Act.put, List.setIfInBounds_toArray, List.set_cons_zero, List.set_cons_succ])
            refine pa_9 rfl rfl (.pointer (some ⟨B', 0, none⟩)) (by kernel_rfl) (by kernel_rfl) (by kernel_rfl) (by decide) (by kernel_rfl) (fun _ _ _ h => h) (by rfl) (fun w => ?_) (by first | (right; assumption) | (left; kernel_rfl)) ?_
            · go_simp
            (try simp only [Act.put, List.setIfInBounds_toArray, List.set_cons_zero, List.set_cons_succ])
            refine pa_10 rfl rfl (.pointer (some ⟨B', 0, none⟩)) (by kernel_rfl) (by kernel_rfl) (by kernel_rfl) (by decide) (by kernel_rfl) (fun _ _ _ h => h) (by rfl) (fun w => ?_) (by first | (right; assumption) | (left; kernel_rfl)) ?_
            · go_simp
            (try simp only [Act.put, List.setIfInBounds_toArray, List.set_cons_zero, List.set_cons_succ])
            refine pt_11 rfl rfl 9 (.slice A2 l c2) (by kernel_rfl) (by kernel_rfl) (by kernel_rfl) (by kernel_rfl) (by kernel_rfl) (fun _ _ _ h => h) (by rfl) (fun w hSw => ?_) (by assumption) ?_
            · (try dsimp only at hSw)
              go_split_ands
              go_simp
            (try simp only [Act.put, List.setIfInBounds_toArray, List.set_cons_zero, List.set_cons_succ])
            refine pa_12 rfl rfl (.int .i64 n) (by kernel_rfl) (by kernel_rfl) (by kernel_rfl) (by decide) (by kernel_rfl) (fun _ _ _ h => h) (by rfl) (fun w => ?_) (by first | (right; assumption) | (left; kernel_rfl)) ?_
            · go_simp
            (try simp only [Act.put, List.setIfInBounds_toArray, List.set_cons_zero, List.set_cons_succ])
            refine pa_13 rfl rfl (.int .i64 mode) (by kernel_rfl) (by kernel_rfl) (by kernel_rfl) (by decide) (by kernel_rfl) (fun _ _ _ h => h) (by rfl) (fun w => ?_) (by first | (right; assumption) | (left; kernel_rfl)) ?_
            · go_simp
            (try simp only [Act.put, List.setIfInBounds_toArray, List.set_cons_zero, List.set_cons_succ])
            refine pa_14 rfl rfl (.int .i64 task) (by kernel_rfl) (by kernel_rfl) (by kernel_rfl) (by decide) (by kernel_rfl) (fun _ _ _ h => h) (by rfl) (fun w => ?_) (by first | (right; assumption) | (left; kernel_rfl)) ?_
            · go_simp
            (try simp only [Act.put, List.setIfInBounds_toArray, List.set_cons_zero, List.set_cons_succ])
            refine pa_15 rfl rfl (.pointer (some ⟨B', 0, none⟩)) (by kernel_rfl) (by kernel_rfl) (by kernel_rfl) (by decide) (by kernel_rfl) (fun _ _ _ h => h) (by rfl) (fun w => ?_) (by first | (right; assumption) | (left; kernel_rfl)) ?_
            · go_simp
            (try simp only [Act.put, List.setIfInBounds_toArray, List.set_cons_zero, List.set_cons_succ])
            refine pa_16 rfl rfl (.pointer (some ⟨B', 0, none⟩)) (by kernel_rfl) (by kernel_rfl) (by kernel_rfl) (by decide) (by kernel_rfl) (fun _ _ _ h => h) (by rfl) (fun w => ?_) (by first | (right; assumption) | (left; kernel_rfl)) ?_
            · go_simp
            (try simp only [Act.put, List.setIfInBounds_toArray, List.set_cons_zero, List.set_cons_succ])
            refine pa_17 rfl rfl (.pointer (some ⟨B', 4, none⟩)) (by kernel_rfl) (by kernel_rfl) (by kernel_rfl) (by decide) (by kernel_rfl) (fun _ _ _ h => h) (by rfl) (fun w => ?_) (by first | (right; assumption) | (left; kernel_rfl)) ?_
            · go_simp
            (try simp only [Act.put, List.setIfInBounds_toArray, List.set_cons_zero, List.set_cons_succ])
            refine pa_18 rfl rfl (.pointer (some ⟨B', 8, none⟩)) (by kernel_rfl) (by kernel_rfl) (by kernel_rfl) (by decide) (by kernel_rfl) (fun _ _ _ h => h) (by rfl) (fun w => ?_) (by first | (right; assumption) | (left; kernel_rfl)) ?_
            · go_simp
            (try simp only [Act.put, List.setIfInBounds_toArray, List.set_cons_zero, List.set_cons_succ])
            refine pt_19 rfl rfl 9 (.agg #[.int .i64 r'.s]) (by kernel_rfl) (by kernel_rfl) (by kernel_rfl) (by kernel_rfl) (by kernel_rfl) (fun _ _ _ h => h) (by rfl) (fun w hSw => ?_) (by assumption) ?_
            · (try dsimp only at hSw)
              go_split_ands
              go_simp
            (try simp only [Act.put, List.setIfInBounds_toArray, List.set_cons_zero, List.set_cons_succ])
            refine pc_20 rfl rfl (by kernel_rfl) (by rfl) (fun K hK => ?_)
            go_simp
            refine (rstuck_any A2 l c2 r'.xs n mode task r'.s HRD1.out.two.hr.len _ (HRD1.out.two.hr.own.held_n HRD1.out.two.hr.len).2.2).mono ?_
            have hsk : r'.stuck = stuckB r'.xs n mode task r'.s := by
              obtain ⟨g1, g2, g3, _⟩ := HK4.out
              show (!r'.k.on && stuckB r'.xs r'.n r'.mode r'.task r'.s) = _
              rw [HON2.out, g1, g2, g3]
              rfl
            generalize stuckB r'.xs n mode task r'.s = sk at *
            have HSK := Lib.hid hsk
            clear hsk
            rintro e w12 ⟨rfl, hO⟩
            have HRD := Lib.hid (HRD1.out.keep hO)
            refine hK.out _ _ (.inl (by kernel_rfl)) ?_
            clear hK K hHeld hO HRD1
            (try simp only [Act.put, List.setIfInBounds_toArray, List.set_cons_zero, List.set_cons_succ])
            refine pa_21 rfl rfl (.bool sk) (by kernel_rfl) (by kernel_rfl) (by kernel_rfl) (by decide) (by kernel_rfl) (fun _ _ _ h => h) (by rfl) (fun w => ?_) (by first | (right; assumption) | (left; kernel_rfl)) ?_
            · go_simp
            (try simp only [Act.put, List.setIfInBounds_toArray, List.set_cons_zero, List.set_cons_succ])
            refine pa_22 rfl rfl (.bool sk) (by kernel_rfl) (by kernel_rfl) (by kernel_rfl) (by decide) (by kernel_rfl) (fun _ _ _ h => h) (by rfl) (fun w => ?_) (by first | (right; assumption) | (left; kernel_rfl)) ?_
            · go_simp
            (try simp only [Act.put, List.setIfInBounds_toArray, List.set_cons_zero, List.set_cons_succ])
            refine wpAnyP_done (by kernel_rfl) ?_ _
            go_upto_region 18 with (fail)
            refine round_same _ _ _ _ _ _ _ _ _ _ _ _ _ _ _ _ _ _ _ _ _ _ _ _ _ _ _ _ _ _ _ _ _ _ _ _ _ _ _ _ _ _ _ _ _ _ _ _ _ _ _ _ _ _ _ _ _ _ _ _ _ _ _ _ _ _ _ _ _ _ _ _ _ _ _ _ _ _ _ _ _ _ _ _ _ _ _ _ _ _ _ _ _ _ _ _ _ _ _ _ _ _ _ _ _ _ _ _ _ _ _ _ _ _ _ _ _ _ _ _ _ _ _ _ _ _ _ _ _ _ _ _ _ _ _ _ _ _ _ _ _ _ _ _ _ _ _ _ _ _ _ _ _ _ _ _ _ _ w w12 B B' M b l c' c2 bs qs g11 g17 g18 sl sc k n3 c3 c4 Na Nb A' A2 A3 A4 nvp2 nvr3 r' outs sk n mode task HRD HSK HK4 hl (fun _ _ _ _ _ h => h) ?_
            intro _ _ _ _ _ _ _ _ _ _ _ _ _ _ _ _ _ _ _ _ _ _ _ _ _ _ _ _ _ _ _ _ _ _ _ _ _ _ _ _ _ _ _ _ _ _ _ _ _ _ _ _ _ _ _ _ _ _ _ _ _ w19 hT hROW
            have HT9 := Lib.hid hT
            have HROW9 := Lib.hid hROW
            clear hT hROW HRD HSK
            have c17 : w19.cell? ⟨g17, 0, none⟩ = some (.int .i64 k) := (show Row w19 g17 3 _ from HROW9.out _ (.tail _ (.head _))).cell_ (i := 0) rfl
            have hk20 : (k : Int) ≤ 20 := by omega
            go_wp2
            clear c17 hk20
            have hnew := Row.new w19 3 #[.int .i64 ((k : Int) + 1)]
            have e9 := (Only.refl Nil w19).alloc (.cells #[.int .i64 ((k : Int) + 1)] 3)
            have h1 : iOf (.pointer (some ⟨w19.heap.size, 0, none⟩)) (w19.alloc (.cells #[.int .i64 ((k : Int) + 1)] 3)) = k + 1 := by
              have hc : (w19.alloc (.cells #[.int .i64 ((k : Int) + 1)] 3)).cell? ⟨w19.heap.size, 0, none⟩ = some (.int .i64 ((k : Int) + 1)) := hnew.cell_ (i := 0) rfl
              unfold iOf
              simp only [hc]
              omega
            refine ⟨⟨k + 1, _, by omega, rfl, Lib.hid ⟨⟨_, _, _, HT9.out.keep e9, HK4.out.1, HK4.out.2.1, HK4.out.2.2.1, HK4.out.2.2.2.1⟩, RowsL.cons (L := [_]) (RowsL.cons (L := []) (fun _ h => by simp at h) hnew) ((HROW9.out _ (.head _)).only e9 id)⟩⟩, ?_⟩
            rw [h1, HI0.out]
            omega
          · have HON2 := Lib.hid hon2
            clear hon2
            refine wp_region_phase (n := 23) 63 (fun _ => True) rfl (by kernel_rfl) trivial (fun hHeld => ?_)
            have HRD1 := Lib.hid (HRD.out.keep (Only.refl Nil w10).drew)
            clear HRD
            generalize w10.drew = w12 at *
            refine pa_0 rfl rfl (.pointer (some ⟨B', 0, none⟩)) (by kernel_rfl) (by kernel_rfl) (by kernel_rfl) (by decide) (by kernel_rfl) (fun _ _ _ h => h) (by rfl) (fun w => ?_) (by first | (right; assumption) | (left; kernel_rfl)) ?_
            · go_simp
            (try simp only [Act.put, List.setIfInBounds_toArray, List.set_cons_zero, List.set_cons_succ])
            refine pa_1 rfl rfl (.pointer (some ⟨B', 0, none⟩)) (by kernel_rfl) (by kernel_rfl) (by kernel_rfl) (by decide) (by kernel_rfl) (fun _ _ _ h => h) (by rfl) (fun w => ?_) (by first | (right; assumption) | (left; kernel_rfl)) ?_
            · go_simp
            (try simp only [Act.put, List.setIfInBounds_toArray, List.set_cons_zero, List.set_cons_succ])
            refine pa_2 rfl rfl (.pointer (some ⟨B', 4, none⟩)) (by kernel_rfl) (by kernel_rfl) (by kernel_rfl) (by decide) (by kernel_rfl) (fun _ _ _ h => h) (by rfl) (fun w => ?_) (by first | (right; assumption) | (left; kernel_rfl)) ?_
            · go_simp
            (try simp only [Act.put, List.setIfInBounds_toArray, List.set_cons_zero, List.set_cons_succ])
            refine pa_3 rfl rfl (.pointer (some ⟨B', 9, none⟩)) (by kernel_rfl) (by kernel_rfl) (by kernel_rfl) (by decide) (by kernel_rfl) (fun _ _ _ h => h) (by rfl) (fun w => ?_) (by first | (right; assumption) | (left; kernel_rfl)) ?_
            · go_simp
            (try simp only [Act.put, List.setIfInBounds_toArray, List.set_cons_zero, List.set_cons_succ])
            refine pa_4 rfl rfl (.pointer (some ⟨B', 9, none⟩)) (by kernel_rfl) (by kernel_rfl) (by kernel_rfl) (by decide) (by kernel_rfl) (fun _ _ _ h => h) (by rfl) (fun w => ?_) (by first | (right; assumption) | (left; kernel_rfl)) ?_
            · go_simp
            (try simp only [Act.put, List.setIfInBounds_toArray, List.set_cons_zero, List.set_cons_succ])
            have c9 : w12.cell? ⟨B', 9, none⟩ = some (.bool true) := by rw [← HON2.out]; exact HRD1.out.two.hr.row.cell_ (i := 9) rfl
            refine pc_5 rfl rfl (by kernel_rfl) (by rfl) (fun K hK => ?_)
            go_simp
            refine hK.out _ _ (.inr trivial) ?_
            clear hK K c9
            (try simp only [Act.put, List.setIfInBounds_toArray, List.set_cons_zero, List.set_cons_succ])
            refine pa_6 rfl rfl (.bool false) (by kernel_rfl) (by kernel_rfl) (by kernel_rfl) (by decide) (by kernel_rfl) (fun _ _ _ h => h) (by rfl) (fun w => ?_) (by first | (right; assumption) | (left; kernel_rfl)) ?_
            · go_simp
            (try simp only [Act.put, List.setIfInBounds_toArray, List.set_cons_zero, List.set_cons_succ])
            refine pa_7 rfl rfl (.bool false) (by kernel_rfl) (by kernel_rfl) (by kernel_rfl) (by decide) (by kernel_rfl) (fun _ _ _ h => h) (by rfl) (fun w => ?_) (by first | (right; assumption) | (left; kernel_rfl)) ?_
            · go_simp
            (try simp only [Act.put, List.setIfInBounds_toArray, List.set_cons_zero, List.set_cons_succ])
            refine pp_8 rfl rfl (by kernel_rfl) (by kernel_rfl) (by kernel_rfl) (by decide) (by kernel_rfl) (fun _ _ _ h => h) (by rfl) (by first | (right; assumption) | (left; kernel_rfl)) ?_
            (try simp only [Act.put, List.setIfInBounds_toArray, List.set_cons_zero, List.set_cons_succ])
            refine pp_9 rfl rfl (by kernel_rfl) (by kernel_rfl) (by kernel_rfl) (by decide) (by kernel_rfl) (fun _ _ _ h => h) (by rfl) (by first | (right; assumption) | (left; kernel_rfl)) ?_
            (try simp only [Act.put, List.setIfInBounds_toArray, List.set_cons_zero, List.set_cons_succ])
            refine pp_10 rfl rfl (by kernel_rfl) (by kernel_rfl) (by kernel_rfl) (by decide) (by kernel_rfl) (fun _ _ _ h => h) (by rfl) (by first | (right; assumption) | (left; kernel_rfl)) ?_
            (try simp only [Act.put, List.setIfInBounds_toArray, List.set_cons_zero, List.set_cons_succ])
            refine pp_11 rfl rfl (by kernel_rfl) (by kernel_rfl) (by kernel_rfl) (by decide) (by kernel_rfl) (fun _ _ _ h => h) (by rfl) (by first | (right; assumption) | (left; kernel_rfl)) ?_
            (try simp only [Act.put, List.setIfInBounds_toArray, List.set_cons_zero, List.set_cons_succ])
            refine pp_12 rfl rfl (by kernel_rfl) (by kernel_rfl) (by kernel_rfl) (by decide) (by kernel_rfl) (fun _ _ _ h => h) (by rfl) (by first | (right; assumption) | (left; kernel_rfl)) ?_
            (try simp only [Act.put, List.setIfInBounds_toArray, List.set_cons_zero, List.set_cons_succ])
            refine pp_13 rfl rfl (by kernel_rfl) (by kernel_rfl) (by kernel_rfl) (by decide) (by kernel_rfl) (fun _ _ _ h => h) (by rfl) (by first | (right; assumption) | (left; kernel_rfl)) ?_
            (try simp only [Act.put, List.setIfInBounds_toArray, List.set_cons_zero, List.set_cons_succ])
            refine pp_14 rfl rfl (by kernel_rfl) (by kernel_rfl) (by kernel_rfl) (by decide) (by kernel_rfl) (fun _ _ _ h => h) (by rfl) (by first | (right; assumption) | (left; kernel_rfl)) ?_
            (try simp only [Act.put, List.setIfInBounds_toArray, List.set_cons_zero, List.set_cons_succ])
            refine pp_15 rfl rfl (by kernel_rfl) (by kernel_rfl) (by kernel_rfl) (by decide) (by kernel_rfl) (fun _ _ _ h => h) (by rfl) (by first | (right; assumption) | (left; kernel_rfl)) ?_
            (try simp only [Act.put, List.setIfInBounds_toArray, List.set_cons_zero, List.set_cons_succ])
            refine pp_16 rfl rfl (by kernel_rfl) (by kernel_rfl) (by kernel_rfl) (by decide) (by kernel_rfl) (fun _ _ _ h => h) (by rfl) (by first | (right; assumption) | (left; kernel_rfl)) ?_
            (try simp only [Act.put, List.setIfInBounds_toArray, List.set_cons_zero, List.set_cons_succ])
            refine pp_17 rfl rfl (by kernel_rfl) (by kernel_rfl) (by kernel_rfl) (by decide) (by kernel_rfl) (fun _ _ _ h => h) (by rfl) (by first | (right; assumption) | (left; kernel_rfl)) ?_
            (try simp only [Act.put, List.setIfInBounds_toArray, List.set_cons_zero, List.set_cons_succ])
            refine pp_18 rfl rfl (by kernel_rfl) (by kernel_rfl) (by kernel_rfl) (by decide) (by kernel_rfl) (fun _ _ _ h => h) (by rfl) (by first | (right; assumption) | (left; kernel_rfl)) ?_
            (try simp only [Act.put, List.setIfInBounds_toArray, List.set_cons_zero, List.set_cons_succ])
            refine pp_19 rfl rfl (by kernel_rfl) (by kernel_rfl) (by kernel_rfl) (by decide) (by kernel_rfl) (fun _ _ _ h => h) (by rfl) (by first | (right; assumption) | (left; kernel_rfl)) ?_
            (try simp only [Act.put, List.setIfInBounds_toArray, List.set_cons_zero, List.set_cons_succ])
            refine pp_20 rfl rfl (by kernel_rfl) (by kernel_rfl) (by kernel_rfl) (by decide) (by kernel_rfl) (fun _ _ _ h => h) (by rfl) (by first | (right; assumption) | (left; kernel_rfl)) ?_
            (try simp only [Act.put, List.setIfInBounds_toArray, List.set_cons_zero, List.set_cons_succ])
            refine pa_21 rfl rfl (.bool false) (by kernel_rfl) (by kernel_rfl) (by kernel_rfl) (by decide) (by kernel_rfl) (fun _ _ _ h => h) (by rfl) (fun w => ?_) (by first | (right; assumption) | (left; kernel_rfl)) ?_
            · go_simp
            (try simp only [Act.put, List.setIfInBounds_toArray, List.set_cons_zero, List.set_cons_succ])
            refine pa_22 rfl rfl (.bool false) (by kernel_rfl) (by kernel_rfl) (by kernel_rfl) (by decide) (by kernel_rfl) (fun _ _ _ h => h) (by rfl) (fun w => ?_) (by first | (right; assumption) | (left; kernel_rfl)) ?_
            · go_simp
            (try simp only [Act.put, List.setIfInBounds_toArray, List.set_cons_zero, List.set_cons_succ])
            refine wpAnyP_done (by kernel_rfl) ?_ _
            have HRD := HRD1
            have HSK : Hid (r'.stuck = false) := Lib.hid (by
              show (!r'.k.on && stuckB r'.xs r'.n r'.mode r'.task r'.s) = _
              rw [HON2.out]
              rfl)
            clear HRD1
            go_upto_region 18 with (fail)
            refine round_same _ _ _ _ _ _ _ _ _ _ _ _ _ _ _ _ _ _ _ _ _ _ _ _ _ _ _ _ _ _ _ _ _ _ _ _ _ _ _ _ _ _ _ _ _ _ _ _ _ _ _ _ _ _ _ _ _ _ _ _ _ _ _ _ _ _ _ _ _ _ _ _ _ _ _ _ _ _ _ _ _ _ _ _ _ _ _ _ _ _ _ _ _ _ _ _ _ _ _ _ _ _ _ _ _ _ _ _ _ _ _ _ _ _ _ _ _ _ _ _ _ _ _ _ _ _ _ _ _ _ _ _ _ _ _ _ _ _ _ _ _ _ _ _ _ _ _ _ _ _ _ _ _ _ _ _ _ _ w w12 B B' M b l c' c2 bs qs g11 g17 g18 sl sc k n3 c3 c4 Na Nb A' A2 A3 A4 nvp2 nvr3 r' outs false n mode task HRD HSK HK4 hl (fun _ _ _ _ _ h => h) ?_
            intro _ _ _ _ _ _ _ _ _ _ _ _ _ _ _ _ _ _ _ _ _ _ _ _ _ _ _ _ _ _ _ _ _ _ _ _ _ _ _ _ _ _ _ _ _ _ _ _ _ _ _ _ _ _ _ _ _ _ _ _ _ w19 hT hROW
            have HT9 := Lib.hid hT
            have HROW9 := Lib.hid hROW
            clear hT hROW HRD HSK
            have c17 : w19.cell? ⟨g17, 0, none⟩ = some (.int .i64 k) := (show Row w19 g17 3 _ from HROW9.out _ (.tail _ (.head _))).cell_ (i := 0) rfl
            have hk20 : (k : Int) ≤ 20 := by omega
            go_wp2
            clear c17 hk20
            have hnew := Row.new w19 3 #[.int .i64 ((k : Int) + 1)]
            have e9 := (Only.refl Nil w19).alloc (.cells #[.int .i64 ((k : Int) + 1)] 3)
            have h1 : iOf (.pointer (some ⟨w19.heap.size, 0, none⟩)) (w19.alloc (.cells #[.int .i64 ((k : Int) + 1)] 3)) = k + 1 := by
              have hc : (w19.alloc (.cells #[.int .i64 ((k : Int) + 1)] 3)).cell? ⟨w19.heap.size, 0, none⟩ = some (.int .i64 ((k : Int) + 1)) := hnew.cell_ (i := 0) rfl
              unfold iOf
              simp only [hc]
              omega
            refine ⟨⟨k + 1, _, by omega, rfl, Lib.hid ⟨⟨_, _, _, HT9.out.keep e9, HK4.out.1, HK4.out.2.1, HK4.out.2.2.1, HK4.out.2.2.2.1⟩, RowsL.cons (L := [_]) (RowsL.cons (L := []) (fun _ h => by simp at h) hnew) ((HROW9.out _ (.head _)).only e9 id)⟩⟩, ?_⟩
            rw [h1, HI0.out]
            omega
        · have HON := Lib.hid hon
          rw [show rk.next l0 = rk.waking from by unfold LS.next; rw [hon]; rfl] at HK3
          clear hon
          refine (step_wake B (some ⟨b, 0, none⟩) A' c' nvp _ rk _ HT1.out.hp HON.out).mono ?_
          intro e w8 hD
          obtain ⟨rfl, hO, _, nvp2, hP⟩ := hD
          have hO2 := hO.mono (T := fun j => TurnB B A' j ∨ j = g18) (fun _ _ e => .inl e)
          have HT2 := Lib.hid (HT1.out.prog H18.out hO2 (by decide) (by decide) (by decide) HG18.out hP)
          have HROW2 := Lib.hid (HROW1.out.prog HT1.out.hp H18.out hO2 (by simp))
          have H182 := Lib.hid (H18.out.only hO (fun e => by
            rcases e with e | e
            · exact row_ne H18.out HT1.out.hp.row (by decide) e
            · exact memo_not HT1.out.hp.memo H18.out (by decide) (by decide) (.inr e)))
          clear hO hO2 hP HT1 HROW1 H18
          go_wp2_with fail
          refine (rwaking_on B' M A2 l c2 nvr rk _ HT2.out.hr HON.out).mono ?_
          intro e w10 hD
          obtain ⟨rfl, hO, nvr3, hR⟩ := hD
          have HRD : Hid (RD w B B' M (some ⟨b, 0, none⟩) A' A2 c' l c2 nvp2 nvr3 rk.waking g11 g17 g18 (some ⟨bs, qs, none⟩) sl sc k none 0 0 none 0 [] 0 0 w10) :=
            Lib.hid ⟨HT2.out.answ hO hR, RowsL.answ (L := [_, _, _]) (RowsL.cons (L := [_, _]) (RowsL.cons (L := [_]) (RowsL.cons (L := []) (fun _ h => by simp at h) H182.out) (HROW2.out _ (.tail _ (.head _)))) (HROW2.out _ (.head _))) HT2.out.hr hO (by simp), own_nil _ _, own_nil _ _, rfl⟩
          clear hO hR HT2 HROW2 H182
          have HK4 := Lib.hid (show rk.waking.n = n ∧ rk.waking.mode = mode ∧ rk.waking.task = task ∧ Words rk.waking.xs ∧ rk.waking.ns.length ≤ 10 ∧ 0 ≤ 1000 from by
            obtain ⟨h1, h2, h3, h4, h5⟩ := HK3.out
            obtain ⟨g1, g2, g3, g4⟩ := HNN.out
            exact ⟨h1.trans g1, h2.trans g2, h3.trans g3, h4 g4, h5, by decide⟩)
          clear HK3
          generalize rk.waking = r' at *
          go_upto_region 17 with (fail)
          cases hon2 : r'.k.on
          · have HON2 := Lib.hid hon2
            clear hon2
            refine wp_region_phase (n := 23) 20 (fun w => w.cell? ⟨B', 9, none⟩ = some (.bool false) ∧ w.cell? ⟨B', 0, none⟩ = some (.slice A2 l c2) ∧ w.cell? ⟨B', 8, none⟩ = some (.int .i64 r'.s)) rfl (by kernel_rfl) ⟨by rw [← HON2.out]; exact HRD.out.two.hr.row.cell_ (i := 9) rfl, HRD.out.two.hr.row.cell_ (i := 0) rfl, HRD.out.two.hr.row.cell_ (i := 8) rfl⟩ (fun hHeld => ?_)
            have HRD1 := Lib.hid (HRD.out.keep (Only.refl Nil w10).drew)
            clear HRD
            generalize w10.drew = w11 at *
            refine pa_0 rfl rfl (.pointer (some ⟨B', 0, none⟩)) (by kernel_rfl) (by kernel_rfl) (by kernel_rfl) (by decide) (by kernel_rfl) (fun _ _ _ h => h) (by rfl) (fun w => ?_) (by first | (right; assumption) | (left; kernel_rfl)) ?_
            · go_simp
            (try simp only [Act.put, List.setIfInBounds_toArray, List.set_cons_zero, List.set_cons_succ])
            refine pa_1 rfl rfl (.pointer (some ⟨B', 0, none⟩)) (by kernel_rfl) (by kernel_rfl) (by kernel_rfl) (by decide) (by kernel_rfl) (fun _ _ _ h => h) (by rfl) (fun w => ?_) (by first | (right; assumption) | (left; kernel_rfl)) ?_
            · go_simp
            (try simp only [Act.put, List.setIfInBounds_toArray, List.set_cons_zero, List.set_cons_succ])
            refine pa_2 rfl rfl (.pointer (some ⟨B', 4, none⟩)) (by kernel_rfl) (by kernel_rfl) (by kernel_rfl) (by decide) (by kernel_rfl) (fun _ _ _ h => h) (by rfl) (fun w => ?_) (by first | (right; assumption) | (left; kernel_rfl)) ?_
            · go_simp
            (try simp only [Act.put, List.setIfInBounds_toArray, List.set_cons_zero, List.set_cons_succ])
            refine pa_3 rfl rfl (.pointer (some ⟨B', 9, none⟩)) (by kernel_rfl) (by kernel_rfl) (by kernel_rfl) (by decide) (by kernel_rfl) (fun _ _ _ h => h) (by rfl) (fun w => ?_) (by first | (right; assumption) | (left; kernel_rfl)) ?_
            · go_simp
            (try simp only [Act.put, List.setIfInBounds_toArray, List.set_cons_zero, List.set_cons_succ])
            refine pa_4 rfl rfl (.pointer (some ⟨B', 9, none⟩)) (by kernel_rfl) (by kernel_rfl) (by kernel_rfl) (by decide) (by kernel_rfl) (fun _ _ _ h => h) (by rfl) (fun w => ?_) (by first | (right; assumption) | (left; kernel_rfl)) ?_
            · go_simp
            (try simp only [Act.put, List.setIfInBounds_toArray, List.set_cons_zero, List.set_cons_succ])
            refine pt_5 rfl rfl 9 (.bool false) (by kernel_rfl) (by kernel_rfl) (by kernel_rfl) (by kernel_rfl) (by kernel_rfl) (fun _ _ _ h => h) (by rfl) (fun w hSw => ?_) (by assumption) ?_
            · (try dsimp only at hSw)
              go_split_ands
              go_simp
            (try simp only [Act.put, List.setIfInBounds_toArray, List.set_cons_zero, List.set_cons_succ])
            refine pa_6 rfl rfl (.bool true) (by kernel_rfl) (by kernel_rfl) (by kernel_rfl) (by decide) (by kernel_rfl) (fun _ _ _ h => h) (by rfl) (fun w => ?_) (by first | (right; assumption) | (left; kernel_rfl)) ?_
            · go_simp
            (try simp only [Act.put, List.setIfInBounds_toArray, List.set_cons_zero, List.set_cons_succ])
            refine pa_7 rfl rfl (.bool true) (by kernel_rfl) (by kernel_rfl) (by kernel_rfl) (by decide) (by kernel_rfl) (fun _ _ _ h => h) (by rfl) (fun w => ?_) (by first | (right; assumption) | (left; kernel_rfl)) ?_
            · go_simp
            (try simp only [Act.put, List.setIfInBounds_toArray, List.set_cons_zero, List.set_cons_succ])
            refine pa_8 rfl rfl (.pointer (some ⟨B', 0, none⟩)) (by kernel_rfl) (by kernel_rfl) (by kernel_rfl) (by decide) (by kernel_rfl) (fun _ _ _ h => h) (by rfl) (fun w => ?_) (by first | (right; assumption) | (left; kernel_rfl)) ?_
            · go_simp
            (try simp only [Act.put, List.setIfInBounds_toArray, List.set_cons_zero, List.set_cons_succ])
            refine pa_9 rfl rfl (.pointer (some ⟨B', 0, none⟩)) (by kernel_rfl) (by kernel_rfl) (by kernel_rfl) (by decide) (by kernel_rfl) (fun _ _ _ h => h) (by rfl) (fun w => ?_) (by first | (right; assumption) | (left; kernel_rfl)) ?_
            · go_simp
            (try simp only [Act.put, List.setIfInBounds_toArray, List.set_cons_zero, List.set_cons_succ])
            refine pa_10 rfl rfl (.pointer (some ⟨B', 0, none⟩)) (by kernel_rfl) (by kernel_rfl) (by kernel_rfl) (by decide) (by kernel_rfl) (fun _ _ _ h => h) (by rfl) (fun w => ?_) (by first | (right; assumption) | (left; kernel_rfl)) ?_
            · go_simp
            (try simp only [Act.put, List.setIfInBounds_toArray, List.set_cons_zero, List.set_cons_succ])
            refine pt_11 rfl rfl 9 (.slice A2 l c2) (by kernel_rfl) (by kernel_rfl) (by kernel_rfl) (by kernel_rfl) (by kernel_rfl) (fun _ _ _ h => h) (by rfl) (fun w hSw => ?_) (by assumption) ?_
            · (try dsimp only at hSw)
              go_split_ands
              go_simp
            (try simp only [Act.put, List.setIfInBounds_toArray, List.set_cons_zero, List.set_cons_succ])
            refine pa_12 rfl rfl (.int .i64 n) (by kernel_rfl) (by kernel_rfl) (by kernel_rfl) (by decide) (by kernel_rfl) (fun _ _ _ h => h) (by rfl) (fun w => ?_) (by first | (right; assumption) | (left; kernel_rfl)) ?_
            · go_simp
            (try simp only [Act.put, List.setIfInBounds_toArray, List.set_cons_zero, List.set_cons_succ])
            refine pa_13 rfl rfl (.int .i64 mode) (by kernel_rfl) (by kernel_rfl) (by kernel_rfl) (by decide) (by kernel_rfl) (fun _ _ _ h => h) (by rfl) (fun w => ?_) (by first | (right; assumption) | (left; kernel_rfl)) ?_
            · go_simp
            (try simp only [Act.put, List.setIfInBounds_toArray, List.set_cons_zero, List.set_cons_succ])
            refine pa_14 rfl rfl (.int .i64 task) (by kernel_rfl) (by kernel_rfl) (by kernel_rfl) (by decide) (by kernel_rfl) (fun _ _ _ h => h) (by rfl) (fun w => ?_) (by first | (right; assumption) | (left; kernel_rfl)) ?_
            · go_simp
            (try simp only [Act.put, List.setIfInBounds_toArray, List.set_cons_zero, List.set_cons_succ])
            refine pa_15 rfl rfl (.pointer (some ⟨B', 0, none⟩)) (by kernel_rfl) (by kernel_rfl) (by kernel_rfl) (by decide) (by kernel_rfl) (fun _ _ _ h => h) (by rfl) (fun w => ?_) (by first | (right; assumption) | (left; kernel_rfl)) ?_
            · go_simp
            (try simp only [Act.put, List.setIfInBounds_toArray, List.set_cons_zero, List.set_cons_succ])
            refine pa_16 rfl rfl (.pointer (some ⟨B', 0, none⟩)) (by kernel_rfl) (by kernel_rfl) (by kernel_rfl) (by decide) (by kernel_rfl) (fun _ _ _ h => h) (by rfl) (fun w => ?_) (by first | (right; assumption) | (left; kernel_rfl)) ?_
            · go_simp
            (try simp only [Act.put, List.setIfInBounds_toArray, List.set_cons_zero, List.set_cons_succ])
            refine pa_17 rfl rfl (.pointer (some ⟨B', 4, none⟩)) (by kernel_rfl) (by kernel_rfl) (by kernel_rfl) (by decide) (by kernel_rfl) (fun _ _ _ h => h) (by rfl) (fun w => ?_) (by first | (right; assumption) | (left; kernel_rfl)) ?_
            · go_simp
            (try simp only [Act.put, List.setIfInBounds_toArray, List.set_cons_zero, List.set_cons_succ])
            refine pa_18 rfl rfl (.pointer (some ⟨B', 8, none⟩)) (by kernel_rfl) (by kernel_rfl) (by kernel_rfl) (by decide) (by kernel_rfl) (fun _ _ _ h => h) (by rfl) (fun w => ?_) (by first | (right; assumption) | (left; kernel_rfl)) ?_
            · go_simp
            (try simp only [Act.put, List.setIfInBounds_toArray, List.set_cons_zero, List.set_cons_succ])
            refine pt_19 rfl rfl 9 (.agg #[.int .i64 r'.s]) (by kernel_rfl) (by kernel_rfl) (by kernel_rfl) (by kernel_rfl) (by kernel_rfl) (fun _ _ _ h => h) (by rfl) (fun w hSw => ?_) (by assumption) ?_
            · (try dsimp only at hSw)
              go_split_ands
              go_simp
            (try simp only [Act.put, List.setIfInBounds_toArray, List.set_cons_zero, List.set_cons_succ])
            refine pc_20 rfl rfl (by kernel_rfl) (by rfl) (fun K hK => ?_)
            go_simp
            refine (rstuck_any A2 l c2 r'.xs n mode task r'.s HRD1.out.two.hr.len _ (HRD1.out.two.hr.own.held_n HRD1.out.two.hr.len).2.2).mono ?_
            have hsk : r'.stuck = stuckB r'.xs n mode task r'.s := by
              obtain ⟨g1, g2, g3, _⟩ := HK4.out
              show (!r'.k.on && stuckB r'.xs r'.n r'.mode r'.task r'.s) = _
              rw [HON2.out, g1, g2, g3]
              rfl
            generalize stuckB r'.xs n mode task r'.s = sk at *
            have HSK := Lib.hid hsk
            clear hsk
            rintro e w12 ⟨rfl, hO⟩
            have HRD := Lib.hid (HRD1.out.keep hO)
            refine hK.out _ _ (.inl (by kernel_rfl)) ?_
            clear hK K hHeld hO HRD1
            (try simp only [Act.put, List.setIfInBounds_toArray, List.set_cons_zero, List.set_cons_succ])
            refine pa_21 rfl rfl (.bool sk) (by kernel_rfl) (by kernel_rfl) (by kernel_rfl) (by decide) (by kernel_rfl) (fun _ _ _ h => h) (by rfl) (fun w => ?_) (by first | (right; assumption) | (left; kernel_rfl)) ?_
            · go_simp
            (try simp only [Act.put, List.setIfInBounds_toArray, List.set_cons_zero, List.set_cons_succ])
            refine pa_22 rfl rfl (.bool sk) (by kernel_rfl) (by kernel_rfl) (by kernel_rfl) (by decide) (by kernel_rfl) (fun _ _ _ h => h) (by rfl) (fun w => ?_) (by first | (right; assumption) | (left; kernel_rfl)) ?_
            · go_simp
            (try simp only [Act.put, List.setIfInBounds_toArray, List.set_cons_zero, List.set_cons_succ])
            refine wpAnyP_done (by kernel_rfl) ?_ _
            go_upto_region 18 with (fail)
            refine round_same _ _ _ _ _ _ _ _ _ _ _ _ _ _ _ _ _ _ _ _ _ _ _ _ _ _ _ _ _ _ _ _ _ _ _ _ _ _ _ _ _ _ _ _ _ _ _ _ _ _ _ _ _ _ _ _ _ _ _ _ _ _ _ _ _ _ _ _ _ _ _ _ _ _ _ _ _ _ _ _ _ _ _ _ _ _ _ _ _ _ _ _ _ _ _ _ _ _ _ _ _ _ _ _ _ _ _ _ _ _ _ _ _ _ _ _ _ _ _ _ _ _ _ _ _ _ _ _ _ _ _ _ _ _ _ _ _ _ _ _ _ _ _ _ _ _ _ _ _ _ _ _ _ _ _ _ _ _ w w12 B B' M b l c' c2 bs qs g11 g17 g18 sl sc k 0 0 0 0 0 A' A2 none none nvp2 nvr3 r' ([] : List Int) sk n mode task HRD HSK HK4 hl (fun _ _ _ _ _ h => h) ?_
            intro _ _ _ _ _ _ _ _ _ _ _ _ _ _ _ _ _ _ _ _ _ _ _ _ _ _ _ _ _ _ _ _ _ _ _ _ _ _ _ _ _ _ _ _ _ _ _ _ _ _ _ _ _ _ _ _ _ _ _ _ _ w19 hT hROW
            have HT9 := Lib.hid hT
            have HROW9 := Lib.hid hROW
            clear hT hROW HRD HSK
            have c17 : w19.cell? ⟨g17, 0, none⟩ = some (.int .i64 k) := (show Row w19 g17 3 _ from HROW9.out _ (.tail _ (.head _))).cell_ (i := 0) rfl
            have hk20 : (k : Int) ≤ 20 := by omega
            go_wp2
            clear c17 hk20
            have hnew := Row.new w19 3 #[.int .i64 ((k : Int) + 1)]
            have e9 := (Only.refl Nil w19).alloc (.cells #[.int .i64 ((k : Int) + 1)] 3)
            have h1 : iOf (.pointer (some ⟨w19.heap.size, 0, none⟩)) (w19.alloc (.cells #[.int .i64 ((k : Int) + 1)] 3)) = k + 1 := by
              have hc : (w19.alloc (.cells #[.int .i64 ((k : Int) + 1)] 3)).cell? ⟨w19.heap.size, 0, none⟩ = some (.int .i64 ((k : Int) + 1)) := hnew.cell_ (i := 0) rfl
              unfold iOf
              simp only [hc]
              omega
            refine ⟨⟨k + 1, _, by omega, rfl, Lib.hid ⟨⟨_, _, _, HT9.out.keep e9, HK4.out.1, HK4.out.2.1, HK4.out.2.2.1, HK4.out.2.2.2.1⟩, RowsL.cons (L := [_]) (RowsL.cons (L := []) (fun _ h => by simp at h) hnew) ((HROW9.out _ (.head _)).only e9 id)⟩⟩, ?_⟩
            rw [h1, HI0.out]
            omega
          · have HON2 := Lib.hid hon2
            clear hon2
            refine wp_region_phase (n := 23) 63 (fun _ => True) rfl (by kernel_rfl) trivial (fun hHeld => ?_)
            have HRD1 := Lib.hid (HRD.out.keep (Only.refl Nil w10).drew)
            clear HRD
            generalize w10.drew = w12 at *
            refine pa_0 rfl rfl (.pointer (some ⟨B', 0, none⟩)) (by kernel_rfl) (by kernel_rfl) (by kernel_rfl) (by decide) (by kernel_rfl) (fun _ _ _ h => h) (by rfl) (fun w => ?_) (by first | (right; assumption) | (left; kernel_rfl)) ?_
            · go_simp
            (try simp only [Act.put, List.setIfInBounds_toArray, List.set_cons_zero, List.set_cons_succ])
            refine pa_1 rfl rfl (.pointer (some ⟨B', 0, none⟩)) (by kernel_rfl) (by kernel_rfl) (by kernel_rfl) (by decide) (by kernel_rfl) (fun _ _ _ h => h) (by rfl) (fun w => ?_) (by first | (right; assumption) | (left; kernel_rfl)) ?_
            · go_simp
            (try simp only [Act.put, List.setIfInBounds_toArray, List.set_cons_zero, List.set_cons_succ])
            refine pa_2 rfl rfl (.pointer (some ⟨B', 4, none⟩)) (by kernel_rfl) (by kernel_rfl) (by kernel_rfl) (by decide) (by kernel_rfl) (fun _ _ _ h => h) (by rfl) (fun w => ?_) (by first | (right; assumption) | (left; kernel_rfl)) ?_
            · go_simp
            (try simp only [Act.put, List.setIfInBounds_toArray, List.set_cons_zero, List.set_cons_succ])
            refine pa_3 rfl rfl (.pointer (some ⟨B', 9, none⟩)) (by kernel_rfl) (by kernel_rfl) (by kernel_rfl) (by decide) (by kernel_rfl) (fun _ _ _ h => h) (by rfl) (fun w => ?_) (by first | (right; assumption) | (left; kernel_rfl)) ?_
            · go_simp
            (try simp only [Act.put, List.setIfInBounds_toArray, List.set_cons_zero, List.set_cons_succ])
            refine pa_4 rfl rfl (.pointer (some ⟨B', 9, none⟩)) (by kernel_rfl) (by kernel_rfl) (by kernel_rfl) (by decide) (by kernel_rfl) (fun _ _ _ h => h) (by rfl) (fun w => ?_) (by first | (right; assumption) | (left; kernel_rfl)) ?_
            · go_simp
            (try simp only [Act.put, List.setIfInBounds_toArray, List.set_cons_zero, List.set_cons_succ])
            have c9 : w12.cell? ⟨B', 9, none⟩ = some (.bool true) := by rw [← HON2.out]; exact HRD1.out.two.hr.row.cell_ (i := 9) rfl
            refine pc_5 rfl rfl (by kernel_rfl) (by rfl) (fun K hK => ?_)
            go_simp
            refine hK.out _ _ (.inr trivial) ?_
            clear hK K c9
            (try simp only [Act.put, List.setIfInBounds_toArray, List.set_cons_zero, List.set_cons_succ])
            refine pa_6 rfl rfl (.bool false) (by kernel_rfl) (by kernel_rfl) (by kernel_rfl) (by decide) (by kernel_rfl) (fun _ _ _ h => h) (by rfl) (fun w => ?_) (by first | (right; assumption) | (left; kernel_rfl)) ?_
            · go_simp
            (try simp only [Act.put, List.setIfInBounds_toArray, List.set_cons_zero, List.set_cons_succ])
            refine pa_7 rfl rfl (.bool false) (by kernel_rfl) (by kernel_rfl) (by kernel_rfl) (by decide) (by kernel_rfl) (fun _ _ _ h => h) (by rfl) (fun w => ?_) (by first | (right; assumption) | (left; kernel_rfl)) ?_
            · go_simp
            (try simp only [Act.put, List.setIfInBounds_toArray, List.set_cons_zero, List.set_cons_succ])
            refine pp_8 rfl rfl (by kernel_rfl) (by kernel_rfl) (by kernel_rfl) (by decide) (by kernel_rfl) (fun _ _ _ h => h) (by rfl) (by first | (right; assumption) | (left; kernel_rfl)) ?_
            (try simp only [Act.put, List.setIfInBounds_toArray, List.set_cons_zero, List.set_cons_succ])
            refine pp_9 rfl rfl (by kernel_rfl) (by kernel_rfl) (by kernel_rfl) (by decide) (by kernel_rfl) (fun _ _ _ h => h) (by rfl) (by first | (right; assumption) | (left; kernel_rfl)) ?_
            (try simp only [Act.put, List.setIfInBounds_toArray, List.set_cons_zero, List.set_cons_succ])
            refine pp_10 rfl rfl (by kernel_rfl) (by kernel_rfl) (by kernel_rfl) (by decide) (by kernel_rfl) (fun _ _ _ h => h) (by rfl) (by first | (right; assumption) | (left; kernel_rfl)) ?_
            (try simp only [Act.put, List.setIfInBounds_toArray, List.set_cons_zero, List.set_cons_succ])
            refine pp_11 rfl rfl (by kernel_rfl) (by kernel_rfl) (by kernel_rfl) (by decide) (by kernel_rfl) (fun _ _ _ h => h) (by rfl) (by first | (right; assumption) | (left; kernel_rfl)) ?_
            (try simp only [Act.put, List.setIfInBounds_toArray, List.set_cons_zero, List.set_cons_succ])
            refine pp_12 rfl rfl (by kernel_rfl) (by kernel_rfl) (by kernel_rfl) (by decide) (by kernel_rfl) (fun _ _ _ h => h) (by rfl) (by first | (right; assumption) | (left; kernel_rfl)) ?_
            (try simp only [Act.put, List.setIfInBounds_toArray, List.set_cons_zero, List.set_cons_succ])
            refine pp_13 rfl rfl (by kernel_rfl) (by kernel_rfl) (by kernel_rfl) (by decide) (by kernel_rfl) (fun _ _ _ h => h) (by rfl) (by first | (right; assumption) | (left; kernel_rfl)) ?_
            (try simp only [Act.put, List.setIfInBounds_toArray, List.set_cons_zero, List.set_cons_succ])
            refine pp_14 rfl rfl (by kernel_rfl) (by kernel_rfl) (by kernel_rfl) (by decide) (by kernel_rfl) (fun _ _ _ h => h) (by rfl) (by first | (right; assumption) | (left; kernel_rfl)) ?_
            (try simp only [Act.put, List.setIfInBounds_toArray, List.set_cons_zero, List.set_cons_succ])
            refine pp_15 rfl rfl (by kernel_rfl) (by kernel_rfl) (by kernel_rfl) (by decide) (by kernel_rfl) (fun _ _ _ h => h) (by rfl) (by first | (right; assumption) | (left; kernel_rfl)) ?_
            (try simp only [Act.put, List.setIfInBounds_toArray, List.set_cons_zero, List.set_cons_succ])
            refine pp_16 rfl rfl (by kernel_rfl) (by kernel_rfl) (by kernel_rfl) (by decide) (by kernel_rfl) (fun _ _ _ h => h) (by rfl) (by first | (right; assumption) | (left; kernel_rfl)) ?_
            (try simp only [Act.put, List.setIfInBounds_toArray, List.set_cons_zero, List.set_cons_succ])
            refine pp_17 rfl rfl (by kernel_rfl) (by kernel_rfl) (by kernel_rfl) (by decide) (by kernel_rfl) (fun _ _ _ h => h) (by rfl) (by first | (right; assumption) | (left; kernel_rfl)) ?_
            (try simp only [Act.put, List.setIfInBounds_toArray, List.set_cons_zero, List.set_cons_succ])
            refine pp_18 rfl rfl (by kernel_rfl) (by kernel_rfl) (by kernel_rfl) (by decide) (by kernel_rfl) (fun _ _ _ h => h) (by rfl) (by first | (right; assumption) | (left; kernel_rfl)) ?_
            (try simp only [Act.put, List.setIfInBounds_toArray, List.set_cons_zero, List.set_cons_succ])
            refine pp_19 rfl rfl (by kernel_rfl) (by kernel_rfl) (by kernel_rfl) (by decide) (by kernel_rfl) (fun _ _ _ h => h) (by rfl) (by first | (right; assumption) | (left; kernel_rfl)) ?_
            (try simp only [Act.put, List.setIfInBounds_toArray, List.set_cons_zero, List.set_cons_succ])
            refine pp_20 rfl rfl (by kernel_rfl) (by kernel_rfl) (by kernel_rfl) (by decide) (by kernel_rfl) (fun _ _ _ h => h) (by rfl) (by first | (right; assumption) | (left; kernel_rfl)) ?_
            (try simp only [Act.put, List.setIfInBounds_toArray, List.set_cons_zero, List.set_cons_succ])
            refine pa_21 rfl rfl (.bool false) (by kernel_rfl) (by kernel_rfl) (by kernel_rfl) (by decide) (by kernel_rfl) (fun _ _ _ h => h) (by rfl) (fun w => ?_) (by first | (right; assumption) | (left; kernel_rfl)) ?_
            · go_simp
            (try simp only [Act.put, List.setIfInBounds_toArray, List.set_cons_zero, List.set_cons_succ])
            refine pa_22 rfl rfl (.bool false) (by kernel_rfl) (by kernel_rfl) (by kernel_rfl) (by decide) (by kernel_rfl) (fun _ _ _ h => h) (by rfl) (fun w => ?_) (by first | (right; assumption) | (left; kernel_rfl)) ?_
            · go_simp
            (try simp only [Act.put, List.setIfInBounds_toArray, List.set_cons_zero, List.set_cons_succ])
            refine wpAnyP_done (by kernel_rfl) ?_ _
            have HRD := HRD1
            have HSK : Hid (r'.stuck = false) := Lib.hid (by
              show (!r'.k.on && stuckB r'.xs r'.n r'.mode r'.task r'.s) = _
              rw [HON2.out]
              rfl)
            clear HRD1
            go_upto_region 18 with (fail)
            refine round_same _ _ _ _ _ _ _ _ _ _ _ _ _ _ _ _ _ _ _ _ _ _ _ _ _ _ _ _ _ _ _ _ _ _ _ _ _ _ _ _ _ _ _ _ _ _ _ _ _ _ _ _ _ _ _ _ _ _ _ _ _ _ _ _ _ _ _ _ _ _ _ _ _ _ _ _ _ _ _ _ _ _ _ _ _ _ _ _ _ _ _ _ _ _ _ _ _ _ _ _ _ _ _ _ _ _ _ _ _ _ _ _ _ _ _ _ _ _ _ _ _ _ _ _ _ _ _ _ _ _ _ _ _ _ _ _ _ _ _ _ _ _ _ _ _ _ _ _ _ _ _ _ _ _ _ _ _ _ w w12 B B' M b l c' c2 bs qs g11 g17 g18 sl sc k 0 0 0 0 0 A' A2 none none nvp2 nvr3 r' ([] : List Int) false n mode task HRD HSK HK4 hl (fun _ _ _ _ _ h => h) ?_
            intro _ _ _ _ _ _ _ _ _ _ _ _ _ _ _ _ _ _ _ _ _ _ _ _ _ _ _ _ _ _ _ _ _ _ _ _ _ _ _ _ _ _ _ _ _ _ _ _ _ _ _ _ _ _ _ _ _ _ _ _ _ w19 hT hROW
            have HT9 := Lib.hid hT
            have HROW9 := Lib.hid hROW
            clear hT hROW HRD HSK
            have c17 : w19.cell? ⟨g17, 0, none⟩ = some (.int .i64 k) := (show Row w19 g17 3 _ from HROW9.out _ (.tail _ (.head _))).cell_ (i := 0) rfl
            have hk20 : (k : Int) ≤ 20 := by omega
            go_wp2
            clear c17 hk20
            have hnew := Row.new w19 3 #[.int .i64 ((k : Int) + 1)]
            have e9 := (Only.refl Nil w19).alloc (.cells #[.int .i64 ((k : Int) + 1)] 3)
            have h1 : iOf (.pointer (some ⟨w19.heap.size, 0, none⟩)) (w19.alloc (.cells #[.int .i64 ((k : Int) + 1)] 3)) = k + 1 := by
              have hc : (w19.alloc (.cells #[.int .i64 ((k : Int) + 1)] 3)).cell? ⟨w19.heap.size, 0, none⟩ = some (.int .i64 ((k : Int) + 1)) := hnew.cell_ (i := 0) rfl
              unfold iOf
              simp only [hc]
              omega
            refine ⟨⟨k + 1, _, by omega, rfl, Lib.hid ⟨⟨_, _, _, HT9.out.keep e9, HK4.out.1, HK4.out.2.1, HK4.out.2.2.1, HK4.out.2.2.2.1⟩, RowsL.cons (L := [_]) (RowsL.cons (L := []) (fun _ h => by simp at h) hnew) ((HROW9.out _ (.head _)).only e9 id)⟩⟩, ?_⟩
            rw [h1, HI0.out]
            omega
      · have hm1 : (10 : Int) < m := by omega
        go_wp2_with fail
        refine (awake_any _).mono ?_
        rintro e w7 ⟨rfl, hO⟩
        have HO7 := Lib.hid (HT.out.only.trans hO)
        clear hO c11 c17 ce hm1
        go_wp2
        go_ret
        exact ⟨rfl, HO7.out⟩
    · obtain rfl : k = sl := by omega
      go_wp2_with fail
      refine (awake_any _).mono ?_
      rintro e w7 ⟨rfl, hO⟩
      have HO7 := Lib.hid (HT.out.only.trans hO)
      clear hO c11 c17
      go_wp2
      go_ret
      exact ⟨rfl, HO7.out⟩

theorem walk_lineSteps (a0 : Option Addr) (len0 cap0 : Nat) (z0 : List Int) (a1 a2 a3 : Int) (u4x0 u4x1 u4x2 u4x3 u4x4 : Int) (u4x5 : Bool) (u4x6 u4x7 : Int) (u4x8 : Bool) (u4x9 : Int) (a5 : Option Addr) (len5 cap5 : Nat) (w : World)
    (w0 : IsRow .u32 w a0 len0 cap0 z0) (w1 : (Lit.int .i64 a1).wf = true) (w2 : (Lit.int .i64 a2).wf = true) (w3 : (Lit.int .i64 a3).wf = true) (w4 : True) (w5 : IsSteps w a5 len5) :
    Calls Try.prog 3 #[.slice a0 len0 cap0, .int .i64 a1, .int .i64 a2, .int .i64 a3, .agg #[.int .i64 u4x0, .int .i64 u4x1, .int .u32 u4x2, .int .u32 u4x3, .int .i64 u4x4, .bool u4x5, .int .i64 u4x6, .int .i64 u4x7, .bool u4x8, .int .i64 u4x9], .slice a5 len5 cap5] w fun e w' => e = .returned (.bool true) ∧ Only Nil w w' := by
  by_cases h1 : len0 ≤ 1024
  · by_cases h2 : len5 ≤ 20
    · exact lsteps_main a0 len0 cap0 a1 a2 a3 u4x0 u4x1 u4x2 u4x3 u4x4 u4x5 u4x6 u4x7 u4x8 u4x9 a5 len5 cap5 w z0 w0 w5 h1 h2
    · exact lsteps_away a0 len0 cap0 a1 a2 a3 u4x0 u4x1 u4x2 u4x3 u4x4 u4x5 u4x6 u4x7 u4x8 u4x9 a5 len5 cap5 w (.inr ⟨h1, by omega⟩)
  · exact lsteps_away a0 len0 cap0 a1 a2 a3 u4x0 u4x1 u4x2 u4x3 u4x4 u4x5 u4x6 u4x7 u4x8 u4x9 a5 len5 cap5 w (.inl (by omega))
end Go.Proofs.Ytomgjamojeejbaa
