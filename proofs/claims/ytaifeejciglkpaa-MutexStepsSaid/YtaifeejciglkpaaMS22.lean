import Derived.Laws.BitsAllLaws
import Derived.Laws.BitsLemmas
import Derived.Test.YtaifeejciglkpaaMS21
import Derived.Test.YtaifeejciglkpaaMS5
import Derived.Test.YtaifeejciglkpaaMS18
import Derived.Test.YtaifeejciglkpaaMS14
set_option linter.unusedVariables false
set_option linter.unusedSimpArgs false
namespace Go.Proofs.Ytaifeejciglkpaa
open Go.RowKit
def Zeros (S : Nat) (w : World) (e : Ending) (w' : World) : Prop :=
  ∃ g, e = .returned (.tuple #[.slice (some ⟨g, 0, none⟩) S S, .int .i64 0]) ∧ w.heap.size ≤ g ∧ Held w' (some ⟨g, 0, none⟩) S S (List.replicate S 0) ∧ Only Nil w w' ∧ g < w'.heap.size
theorem words4 (S c : Nat) : words 4 S c 0 = List.replicate S 0 := by
  apply List.ext_getElem
  · simp [words]
  · intro i h1 h2; simp [words, wordI]
theorem first4 (n : Int) (S : Nat) (w : World) (hn : 1 ≤ n ∧ n ≤ 64) (hS : sizeI n = S) :
    Calls Try.prog 19 #[.int .i64 4, .int .i64 n, .int .u32 0] w (Zeros S w) := by
  refine (first_yes 4 n 0 S w (by omega) hn hS (by omega)).mono ?_
  rintro e w' ⟨g, rfl, hg, hR, hO⟩
  rw [words4] at hR
  have hI := Row.ints (k := .u32) (xs := List.replicate S 0) hR
  exact ⟨g, rfl, hg, ⟨by simp, (by intro h; cases h), hI⟩, hO, hR.lt⟩
end Go.Proofs.Ytaifeejciglkpaa
set_option linter.unusedVariables false
set_option linter.unusedSimpArgs false
namespace Go.Proofs.Ytaifeejciglkpaa
open Go.RowKit
def Fresh (w : World) (xs : List Int) (e : Ending) (w' : World) : Prop := ∃ b A' c', e = .returned (.tuple #[.pointer (some ⟨b, 0, none⟩), .int .i64 0]) ∧ w.heap.size ≤ b ∧ (∀ i, At A' i → w.heap.size ≤ i) ∧ Mem w' b A' c' xs ∧ Only Nil w w'
theorem from_ok (A : Option Addr) (n cap : Nat) (xs : List Int) (w : World) (hm : n ≤ 1024) (h : Held w A n cap xs) :
    Calls Try.prog 7 #[.slice A n cap] w (Fresh w xs) := by
  have hl := h.1
  have hm' : (n : Int) ≤ 1024 := by omega
  have HH := Lib.hid h
  have HL := Lib.hid hl
  clear h hl
  go_enter Try.func7, Try.ntmps7
  go_wp2_with (go_at_call 21; refine (clone_held A n cap xs _ (by omega) HH.out).mono ?_; rintro e w1 ⟨A', c', rfl, ho, hO⟩)
  have HO := Lib.hid ho
  have HW := Lib.hid hO
  clear ho hO
  go_ret2
  refine ⟨w1.heap.size, A', c', rfl, HW.out.size, HO.out.base, ⟨Row.new w1 _ _, ?_, ?_⟩, HW.out.alloc _⟩
  · exact ⟨own_base (own_only HO.out.own ((Only.refl Nil w1).alloc _) (fun _ _ h => h)) (Nat.zero_le _), HO.out.nil, fun _ _ => Nat.zero_le _⟩
  · rw [HL.out]; exact hm
end Go.Proofs.Ytaifeejciglkpaa
set_option linter.unusedVariables false
set_option linter.unusedSimpArgs false
namespace Go.Proofs.Ytaifeejciglkpaa
open Go.RowKit
end Go.Proofs.Ytaifeejciglkpaa
set_option linter.unusedVariables false
set_option linter.unusedSimpArgs false
namespace Go.Proofs.Ytaifeejciglkpaa
open Go.RowKit
structure Made (w0 : World) (b : Nat) (A : Option Addr) (cp : Nat) (xs : List Int) (W : World) : Prop where
  mem : Mem W b A cp xs
  new : ∀ j, At A j → w0.heap.size ≤ j
  only : Only Nil w0 W
theorem Made.call {w0 W W' : World} {b : Nat} {A : Option Addr} {cp : Nat} {xs ys : List Int} (h : Made w0 b A cp xs W) (ho : Only (At A) W W') (hm : Mem W' b A cp ys) : Made w0 b A cp ys W' :=
  ⟨hm, h.new, h.only.step ho (fun i hi e => by have := h.new i e; omega)⟩
end Go.Proofs.Ytaifeejciglkpaa
set_option linter.unusedVariables false
set_option linter.unusedSimpArgs false
namespace Go.Proofs.Ytaifeejciglkpaa
open Go.RowKit
theorem load_raw (b : Nat) (A : Option Addr) (cp : Nat) (xs : List Int) (c : Int) (w : World) (h : Mem w b A cp xs) :
    Calls Try.prog 20 #[.pointer (some ⟨b, 0, none⟩), .int .i64 c] w fun e w' => e = .returned (.int .u32 (wordAt xs c)) ∧ Only (At A) w w' ∧ Mem w' b A cp (doNew xs 1 c 0 0) := by
  have HH := Lib.hid h
  clear h
  go_enter Try.func20, Try.ntmps20
  go_wp2_with fail
  refine (do_any b A cp xs 1 c 0 0 0 _ HH.out).mono ?_
  obtain ⟨k', c', x', y', hv⟩ := doVal_form xs 1 c 0 0
  rw [oldAt xs 1 c rfl] at hv
  rintro e w1 ⟨rfl, hO, hM⟩
  rw [hv]
  have HO := Lib.hid hO
  have HM := Lib.hid hM
  clear hO hM hv
  go_wp2
  go_ret
  exact ⟨rfl, HO.out.alloc _, HM.out.only ((Only.refl Nil w1).alloc _) id (fun _ _ => id)⟩
theorem load_any (b : Nat) (A : Option Addr) (cp : Nat) (xs : List Int) (c : Int) (w : World) (h : Mem w b A cp xs) :
    Calls Try.prog 20 #[.pointer (some ⟨b, 0, none⟩), .int .i64 c] w fun e w' => e = .returned (.int .u32 (wordAt xs c)) ∧ Only (At A) w w' ∧ Mem w' b A cp xs :=
  (load_raw b A cp xs c w h).mono fun _ _ ⟨h1, h2, h3⟩ => ⟨h1, h2, by rw [doNew_load] at h3; exact h3⟩
end Go.Proofs.Ytaifeejciglkpaa
set_option linter.unusedVariables false
set_option linter.unusedSimpArgs false
namespace Go.Proofs.Ytaifeejciglkpaa
open Go.RowKit
def awE : Nat → LS × Bool
  | 0 => (newR 1 1 0 0 (List.replicate 12 0), false)
  | j + 1 => (awE j).1.mxEnter 0 1
def awG : Nat → LS × Bool
  | 0 => ((awE 3).1.go 6, false)
  | j + 1 => (awG j).1.mxGive 0 6 []
theorem awE_ok : ∀ j, (Words (awE j).1.xs ∧ 0 ≤ (awE j).1.a ∧ (awE j).1.a < 4294967296) ∧ (awE j).1.ns.length ≤ j
  | 0 => ⟨⟨fun x hx => by
      have e : x = 0 := List.eq_of_mem_replicate hx
      subst e; decide, Int.le_refl _, by show (0 : Int) < _; decide⟩, Nat.le_refl _⟩
  | j + 1 => by
    obtain ⟨h, hn⟩ := awE_ok j
    have k := keep_enter (awE j).1 0 1
    exact ⟨k.ab h.1 h.2, Nat.le_trans k.1.notes (by omega)⟩
theorem awG_ok : ∀ j, (Words (awG j).1.xs ∧ 0 ≤ (awG j).1.a ∧ (awG j).1.a < 4294967296) ∧ (awG j).1.ns.length ≤ 3
  | 0 => ⟨(awE_ok 3).1, (awE_ok 3).2⟩
  | j + 1 => by
    obtain ⟨h, hn⟩ := awG_ok j
    have k := keep_give (awG j).1 0 6 []
    exact ⟨k.ab h.1 h.2, Nat.le_trans k.1.notes hn⟩
theorem aw_in : (awE 3).2 = true := by decide +kernel
theorem aw_out : (awG 2).2 = true := by decide +kernel
theorem aw_word : wordAt (awG 2).1.xs 0 = 0 := by decide +kernel
structure AwI (w0 : World) (B b : Nat) (A : Option Addr) (cp : Nat) (r : LS) (W : World) : Prop where
  run : ∃ nv, RunP W B (some ⟨b, 0, none⟩) A cp nv r
  only : Only Nil w0 W
  new : w0.heap.size ≤ B ∧ ∀ j, At A j → w0.heap.size ≤ j
theorem AwI.next {w0 W W' : World} {B b : Nat} {A : Option Addr} {cp : Nat} {r r' : LS} {nv : Value} (h : AwI w0 B b A cp r W) (ho : Only (TurnB B A) W W') (hp : RunP W' B (some ⟨b, 0, none⟩) A cp nv r') : AwI w0 B b A cp r' W' :=
  ⟨⟨nv, hp⟩, h.only.step ho (fun j hj e => by
    rcases e with e | e
    · have := h.new.1; omega
    · have := h.new.2 j e; omega), h.new⟩
set_option maxHeartbeats 2000000 in
theorem awake_any (w : World) : Calls Try.prog 6 #[] w fun e w' => e = .returned (.bool true) ∧ Only Nil w w' := by
  go_enter Try.func6, Try.ntmps6
  go_wp2_with fail
  refine (first4 1 12 _ (by decide) (by decide)).mono ?_
  rintro e w1 ⟨gf, rfl, hg, hH, hO, _⟩
  have HH := Lib.hid hH
  have HO := Lib.hid hO
  clear hg hH hO
  go_wp2_with fail
  refine (from_ok _ _ _ _ _ (by decide) HH.out).mono ?_
  rintro e w2 ⟨b, A', c', rfl, hb, hA, hM, hO⟩
  have HM : Hid (Made w b A' c' (List.replicate 12 0) w2) := Lib.hid ⟨hM, fun j hj => Nat.le_trans HO.out.size (hA j hj), HO.out.trans hO⟩
  clear hb hA hM hO HO HH
  have e0 := (Only.refl Nil w2).alloc (.cells (newCells (some ⟨b, 0, none⟩) 1 1 0 0) 43)
  have HI : Hid (AwI w w2.heap.size b A' c' (awE 0).1 (w2.alloc (.cells (newCells (some ⟨b, 0, none⟩) 1 1 0 0) 43))) := Lib.hid ⟨⟨_, Row.new w2 _ _, ownN_nil _ _, (Memo.of HM.out.mem).keep e0⟩, HM.out.only.trans e0, HM.out.only.size, HM.out.new⟩
  clear e0 HM
  unfold newCells at HI
  go_upto_region 8 with (fail)
  generalize w2.alloc _ = w3 at *
  generalize w2.heap.size = B at *
  go_loopw [6, 8] (fun bv iv wr => ∃ j : Nat, j ≤ 3 ∧ iv = .int .i64 j ∧ bv = .bool (awE j).2 ∧ Hid (AwI w B b A' c' (awE j).1 wr)) (fun _ iv _ => 3 - (intOf iv).toNat)
  case atStart => exact ⟨0, Nat.zero_le _, rfl, rfl, HI⟩
  case round =>
    obtain ⟨j, hj, rfl, rfl, HJ⟩ := hrel
    clear HI
    by_cases hlt : j < 3
    · obtain ⟨nv, hP⟩ := HJ.out.run
      have HP := Lib.hid hP
      have HK := Lib.hid (awE_ok j)
      have HS := Lib.hid (show awE (j + 1) = (awE j).1.mxEnter 0 1 from rfl)
      clear hP
      have hlt3 : (j : Int) < 3 := by omega
      generalize awE j = pr at *
      obtain ⟨r, d⟩ := pr
      dsimp only at *
      go_wp2_with fail
      refine (enter_run B _ _ _ nv r 0 1 _ HP.out (by have := HK.out.2; omega) HK.out.1.1 HK.out.1.2).mono ?_
      rintro e w4 ⟨rfl, hO, nv4, hP⟩
      have HJ4 : Hid (AwI w B b A' c' (awE (j + 1)).1 w4) := Lib.hid (by rw [HS.out]; exact HJ.out.next hO hP)
      clear hO hP HP
      go_wp2
      go_roundw
      case rel => exact ⟨j + 1, by omega, by go_num, by rw [HS.out], HJ4⟩
      case measure => simp [intOf]; omega
    · obtain rfl : 3 = j := by omega
      rw [aw_in] at *
      rw [show (((3 : Nat) : Int)) = 3 from rfl]
      obtain ⟨nv, hP⟩ := HJ.out.run
      have c5 : wr.cell? ⟨B, 5, none⟩ = some (.int .i64 (awE 3).1.line) := hP.row.cell_ (i := 5) rfl
      have f5 : wr.frozen? ⟨B, 5, none⟩ = false := hP.row.frozen 5
      have HI : Hid (AwI w B b A' c' (awG 0).1 (wr.setCell ⟨B, 5, none⟩ (.int .i64 6))) := Lib.hid (HJ.out.next ((Only.refl (TurnB B A') wr).setCell (p := ⟨B, 5, none⟩) (.inr (.inl rfl)) _) (hP.setLine 6))
      clear hP HJ
      go_upto_region 13 with (fail)
      clear c5 f5
      generalize wr.setCell ⟨B, 5, none⟩ (.int .i64 6) = w5 at *
      go_loopw [7, 9] (fun bv iv wr => ∃ j : Nat, j ≤ 2 ∧ iv = .int .i64 j ∧ bv = .bool (awG j).2 ∧ Hid (AwI w B b A' c' (awG j).1 wr)) (fun _ iv _ => 2 - (intOf iv).toNat)
      case atStart => exact ⟨0, Nat.zero_le _, rfl, rfl, HI⟩
      case round =>
        obtain ⟨j, hj, rfl, rfl, HJ⟩ := hrel
        clear HI
        by_cases hlt : j < 2
        · obtain ⟨nv, hP⟩ := HJ.out.run
          have HP := Lib.hid hP
          have HK := Lib.hid (awG_ok j)
          have HS := Lib.hid (show awG (j + 1) = (awG j).1.mxGive 0 6 [] from rfl)
          clear hP
          have hlt3 : (j : Int) < 2 := by omega
          generalize awG j = pr at *
          obtain ⟨r, d⟩ := pr
          dsimp only at *
          go_wp2_with fail
          refine (give_run B _ _ _ nv r 0 6 _ HP.out (by have := HK.out.2; omega) HK.out.1.1 HK.out.1.2 (.slice none 0 0) [] ⟨none, 0, rfl, fun _ _ i x h => by simp at h⟩ (by decide) (by decide) (by decide)).mono ?_
          rintro e w4 ⟨rfl, hO, nv4, hP⟩
          have HJ4 : Hid (AwI w B b A' c' (awG (j + 1)).1 w4) := Lib.hid (by rw [HS.out]; exact HJ.out.next hO hP)
          clear hO hP HP
          go_wp2
          go_roundw
          case rel => exact ⟨j + 1, by omega, by go_num, by rw [HS.out], HJ4⟩
          case measure => simp [intOf]; omega
        · obtain rfl : 2 = j := by omega
          rw [aw_out] at *
          obtain ⟨nv, hP⟩ := HJ.out.run
          have HO9 := Lib.hid HJ.out.only
          have HNEW := Lib.hid HJ.out.new
          rcases hP.memo with ⟨h, _⟩ | ⟨b', h, hm⟩
          · cases h
          · cases h
            have HME := Lib.hid hm
            clear hP hm HJ
            go_wp2_with fail
            refine (load_any b A' c' _ 0 _ HME.out).mono ?_
            rw [aw_word]
            rintro e w6 ⟨rfl, hO, _⟩
            have HO6 := Lib.hid (HO9.out.step hO (fun j hj e => by have := HNEW.out.2 j e; omega))
            clear hO
            go_wp2
            go_ret
            exact ⟨rfl, HO6.out⟩
end Go.Proofs.Ytaifeejciglkpaa
set_option linter.unusedVariables false
set_option linter.unusedSimpArgs false
namespace Go.Proofs.Ytaifeejciglkpaa
open Go.RowKit
def codeOps (n : Nat) : Code → Option (Array Oper)
  | .region id ops _ => if id = n then some ops else none
  | .seq a b => (match codeOps n a with | some o => some o | none => codeOps n b)
  | .cond _ t e => (match codeOps n t with | some o => some o | none => codeOps n e)
  | .block _ b => codeOps n b
  | .loop b => codeOps n b
  | .scope b => codeOps n b
  | _ => none
def regOps (f : Func) (n : Nat) : Array Oper := match f.body with | some c => (codeOps n c).getD #[] | none => #[]
theorem sel21 : Region.noSelect (regOps Try.f3 21) = true := by kernel_rfl
theorem free21 : freeB .any (regOps Try.f3 21) = true := by kernel_rfl
theorem reg_intro2 {P : Program} {Q : Exit → Act → World → Prop} {a : Act} {w : World} {id : Nat} {ops ops' : Array Oper} (h : ops = ops') (hs : Region.noSelect ops = true) (hf : freeB .any ops = true) (k : Region.noSelect ops' = true → freeB .any ops' = true → (Code.region id ops' true).wp P Q a w) : (Code.region id ops true).wp P Q a w := by subst h; exact k hs hf
set_option maxRecDepth 100000 in
set_option maxHeartbeats 8000000 in
theorem cmp_mx {K : Act → World → Prop} {Q' : Exit → Act → World → Prop} (x0 x1 x2 x3 x4 x5 x6 x7 x8 x9 x10 x11 x12 x13 x14 x15 x16 x17 x18 x20 x27 x28 x29 x30 x31 x32 x33 x34 x35 x36 x37 x38 x39 x40 x41 x42 x43 x44 x45 x46 x47 x48 x49 x50 x51 x52 x53 x54 x55 x56 x57 x58 x59 x60 x61 x62 x63 x64 x65 x66 x67 x68 x69 x70 x71 x72 x73 x74 x75 x76 x77 x78 x79 x80 x81 x82 x83 x84 x85 x86 x87 x88 x89 x90 x91 x92 x93 x94 x95 x96 x97 x98 x99 x100 x101 x102 x103 x104 x105 x106 x107 x108 x109 x110 x111 x112 x113 x114 x115 x116 x117 x118 x119 x120 x121 x122 x123 x124 x125 x126 x127 x128 x129 x130 x131 x132 x133 x134 x135 x136 x137 x138 x139 x140 x141 x142 x143 x144 x145 x146 x147 x148 x149 x150 x151 x152 x153 x154 x155 x156 x157 x158 x159 x160 x161 x162 x163 x164 x165 x166 x167 x168 x169 x170 x171 x172 x173 x174 x175 x176 x177 x178 x179 x180 : Value) (w w12 : World) (B B' M b l c' c2 : Nat) (A' A2 : Option Addr) (nvp nvr : Value) (r' : LS) (pv qv : Bool)
    (HRD : Hid (Two w B B' M (some ⟨b, 0, none⟩) A' A2 c' l c2 nvp nvr r' r' w12)) (hl : l ≤ 1024) (hns : r'.ns.length ≤ 100)
    (hq : ∀ c a (d : Tmp) v w, Q' (.panic c) (a.put (some d) v) w → Q' (.panic c) a w) (h : ∀ (v128 v129 v130 v131 v132 v133 v134 v135 v136 v137 v138 v139 v140 v141 v142 v143 v144 v145 v146 v147 v148 v149 v150 v151 v152 v153 v154 v155 v156 v157 v158 v159 v160 v161 v162 v163 v164 v165 v166 v167 v168 v169 v170 v171 v172 v173 v174 v175 v176 v177 v178 v179 v180 : Value) (w' : World), Only Nil w w' → K ⟨#[x0, x1, x2, x3, x4, x5, x6, x7, x8, x9, x10, x11, x12, x13, x14, x15, x16, x17, .bool true, .pointer (some ⟨b, 0, none⟩), x20, .pointer (some ⟨B, 0, none⟩), .pointer (some ⟨B', 0, none⟩), .bool pv, .bool qv, .bool pv, .bool qv, x27, x28, x29, x30, x31, x32, x33, x34, x35, x36, x37, x38, x39, x40, x41, x42, x43, x44, x45, x46, x47, x48, x49, x50, x51, x52, x53, x54, x55, x56, x57, x58, x59, x60, x61, x62, x63, x64, x65, x66, x67, x68, x69, x70, x71, x72, x73, x74, x75, x76, x77, x78, x79, x80, x81, x82, x83, x84, x85, x86, x87, x88, x89, x90, x91, x92, x93, x94, x95, x96, x97, x98, x99, x100, x101, x102, x103, x104, x105, x106, x107, x108, x109, x110, x111, x112, x113, x114, x115, x116, x117, x118, x119, x120, x121, x122, x123, x124, x125, x126, x127, v128, v129, v130, v131, v132, v133, v134, v135, v136, v137, v138, v139, v140, v141, v142, v143, v144, v145, v146, v147, v148, v149, v150, v151, v152, v153, v154, v155, v156, v157, v158, v159, v160, v161, v162, v163, v164, v165, v166, v167, v168, v169, v170, v171, v172, v173, v174, v175, v176, v177, v178, v179, v180], []⟩ w') :
    (Code.region 21 (regOps Try.f3 21) true).wp Try.prog (Exit.then K Q') ⟨#[x0, x1, x2, x3, x4, x5, x6, x7, x8, x9, x10, x11, x12, x13, x14, x15, x16, x17, x18, .pointer (some ⟨b, 0, none⟩), x20, .pointer (some ⟨B, 0, none⟩), .pointer (some ⟨B', 0, none⟩), .bool pv, .bool qv, .bool pv, .bool qv, x27, x28, x29, x30, x31, x32, x33, x34, x35, x36, x37, x38, x39, x40, x41, x42, x43, x44, x45, x46, x47, x48, x49, x50, x51, x52, x53, x54, x55, x56, x57, x58, x59, x60, x61, x62, x63, x64, x65, x66, x67, x68, x69, x70, x71, x72, x73, x74, x75, x76, x77, x78, x79, x80, x81, x82, x83, x84, x85, x86, x87, x88, x89, x90, x91, x92, x93, x94, x95, x96, x97, x98, x99, x100, x101, x102, x103, x104, x105, x106, x107, x108, x109, x110, x111, x112, x113, x114, x115, x116, x117, x118, x119, x120, x121, x122, x123, x124, x125, x126, x127, x128, x129, x130, x131, x132, x133, x134, x135, x136, x137, x138, x139, x140, x141, x142, x143, x144, x145, x146, x147, x148, x149, x150, x151, x152, x153, x154, x155, x156, x157, x158, x159, x160, x161, x162, x163, x164, x165, x166, x167, x168, x169, x170, x171, x172, x173, x174, x175, x176, x177, x178, x179, x180], []⟩ w12 := by
  have hfr0 := free21
  have hsel0 := sel21
  refine reg_intro2 (rfl : _ = List.toArray (_ :: _ :: _ :: _ :: _ :: _ :: _ :: _ :: _ :: _ :: _ :: _ :: _ :: _ :: _ :: _ :: _ :: _ :: _ :: _ :: _ :: _ :: _ :: _ :: _ :: _ :: _ :: _ :: _ :: _ :: _ :: _ :: _ :: _ :: _ :: _ :: _ :: _ :: _ :: _ :: _ :: _ :: _ :: _ :: _ :: _ :: _ :: _ :: _ :: _ :: _ :: _ :: _ :: _ :: [])) hsel0 hfr0 (fun hsel hfr => ?_)
  clear hfr0 hsel0
  refine wp_region_phase (n := 54) 51 (fun W => Two w B B' M (some ⟨b, 0, none⟩) A' A2 c' l c2 nvp nvr r' r' W) rfl (by kernel_rfl) (HRD.out.keep (Only.refl Nil w12).drew) (fun hHeld => ?_)
  have HRD1 := Lib.hid (HRD.out.keep (Only.refl Nil w12).drew)
  clear HRD
  generalize w12.drew = w13 at *
  refine with_cl (fun hC => ?_)
  refine mqa 0 rfl (.bool pv) hsel hfr hC (by kernel_rfl) (by decide) (fun _ _ _ h => hq _ _ _ _ _ h) (by rfl) (fun w => ?_) (by first | (right; assumption) | (left; kernel_rfl)) (fun hC2 => ?_)
  · go_simp
  clear hC
  have hC := hC2
  clear hC2
  (try simp only [Act.put, k1, k2, k3])
  refine mqa 1 rfl (.bool pv) hsel hfr hC (by kernel_rfl) (by decide) (fun _ _ _ h => hq _ _ _ _ _ h) (by rfl) (fun w => ?_) (by first | (right; assumption) | (left; kernel_rfl)) (fun hC2 => ?_)
  · go_simp
  clear hC
  have hC := hC2
  clear hC2
  (try simp only [Act.put, k1, k2, k3])
  refine mqa 2 rfl (.bool true) hsel hfr hC (by kernel_rfl) (by decide) (fun _ _ _ h => hq _ _ _ _ _ h) (by rfl) (fun w => ?_) (by first | (right; assumption) | (left; kernel_rfl)) (fun hC2 => ?_)
  · go_simp
  clear hC
  have hC := hC2
  clear hC2
  (try simp only [Act.put, k1, k2, k3])
  refine mqa 3 rfl (.bool true) hsel hfr hC (by kernel_rfl) (by decide) (fun _ _ _ h => hq _ _ _ _ _ h) (by rfl) (fun w => ?_) (by first | (right; assumption) | (left; kernel_rfl)) (fun hC2 => ?_)
  · go_simp
  clear hC
  have hC := hC2
  clear hC2
  (try simp only [Act.put, k1, k2, k3])
  refine mqa 4 rfl (.bool qv) hsel hfr hC (by kernel_rfl) (by decide) (fun _ _ _ h => hq _ _ _ _ _ h) (by rfl) (fun w => ?_) (by first | (right; assumption) | (left; kernel_rfl)) (fun hC2 => ?_)
  · go_simp
  clear hC
  have hC := hC2
  clear hC2
  (try simp only [Act.put, k1, k2, k3])
  refine mqa 5 rfl (.bool qv) hsel hfr hC (by kernel_rfl) (by decide) (fun _ _ _ h => hq _ _ _ _ _ h) (by rfl) (fun w => ?_) (by first | (right; assumption) | (left; kernel_rfl)) (fun hC2 => ?_)
  · go_simp
  clear hC
  have hC := hC2
  clear hC2
  (try simp only [Act.put, k1, k2, k3])
  refine mqa 6 rfl (.bool true) hsel hfr hC (by kernel_rfl) (by decide) (fun _ _ _ h => hq _ _ _ _ _ h) (by rfl) (fun w => ?_) (by first | (right; assumption) | (left; kernel_rfl)) (fun hC2 => ?_)
  · go_simp
  clear hC
  have hC := hC2
  clear hC2
  (try simp only [Act.put, k1, k2, k3])
  refine mqa 7 rfl (.bool true) hsel hfr hC (by kernel_rfl) (by decide) (fun _ _ _ h => hq _ _ _ _ _ h) (by rfl) (fun w => ?_) (by first | (right; assumption) | (left; kernel_rfl)) (fun hC2 => ?_)
  · go_simp
  clear hC
  have hC := hC2
  clear hC2
  (try simp only [Act.put, k1, k2, k3])
  refine mqa 8 rfl (.bool true) hsel hfr hC (by kernel_rfl) (by decide) (fun _ _ _ h => hq _ _ _ _ _ h) (by rfl) (fun w => ?_) (by first | (right; assumption) | (left; kernel_rfl)) (fun hC2 => ?_)
  · go_simp
  clear hC
  have hC := hC2
  clear hC2
  (try simp only [Act.put, k1, k2, k3])
  refine mqa 9 rfl (.pointer (some ⟨B, 0, none⟩)) hsel hfr hC (by kernel_rfl) (by decide) (fun _ _ _ h => hq _ _ _ _ _ h) (by rfl) (fun w => ?_) (by first | (right; assumption) | (left; kernel_rfl)) (fun hC2 => ?_)
  · go_simp
  clear hC
  have hC := hC2
  clear hC2
  (try simp only [Act.put, k1, k2, k3])
  refine mqa 10 rfl (.pointer (some ⟨B, 0, none⟩)) hsel hfr hC (by kernel_rfl) (by decide) (fun _ _ _ h => hq _ _ _ _ _ h) (by rfl) (fun w => ?_) (by first | (right; assumption) | (left; kernel_rfl)) (fun hC2 => ?_)
  · go_simp
  clear hC
  have hC := hC2
  clear hC2
  (try simp only [Act.put, k1, k2, k3])
  refine mqa 11 rfl (.pointer (some ⟨B, 4, none⟩)) hsel hfr hC (by kernel_rfl) (by decide) (fun _ _ _ h => hq _ _ _ _ _ h) (by rfl) (fun w => ?_) (by first | (right; assumption) | (left; kernel_rfl)) (fun hC2 => ?_)
  · go_simp
  clear hC
  have hC := hC2
  clear hC2
  (try simp only [Act.put, k1, k2, k3])
  refine mqt 12 rfl [17, 18, 19, 30, 39, 41, 48, 50] (.agg #[.int .i64 r'.op, .int .i64 r'.line, .int .u32 r'.a, .int .u32 r'.b, .int .i64 r'.s, .bool r'.k.on, .int .i64 r'.k.c, .int .i64 r'.k.i, .bool r'.k.hit, .int .i64 r'.ret]) hsel hfr hC (by kernel_rfl) (by kernel_rfl) (fun _ _ _ h => hq _ _ _ _ _ h) (by rfl) (fun w hSw => ?_) (by assumption) (fun hC2 => ?_)
  · (try dsimp only at hSw)
    have x4 : w.cell? ⟨B, 4, none⟩ = some (.int .i64 r'.op) := hSw.hp.row.cell_ (i := 4) rfl
    have x5 : w.cell? ⟨B, 5, none⟩ = some (.int .i64 r'.line) := hSw.hp.row.cell_ (i := 5) rfl
    have x6 : w.cell? ⟨B, 6, none⟩ = some (.int .u32 r'.a) := hSw.hp.row.cell_ (i := 6) rfl
    have x7 : w.cell? ⟨B, 7, none⟩ = some (.int .u32 r'.b) := hSw.hp.row.cell_ (i := 7) rfl
    have x8 : w.cell? ⟨B, 8, none⟩ = some (.int .i64 r'.s) := hSw.hp.row.cell_ (i := 8) rfl
    have x9 : w.cell? ⟨B, 9, none⟩ = some (.bool r'.k.on) := hSw.hp.row.cell_ (i := 9) rfl
    have x10 : w.cell? ⟨B, 10, none⟩ = some (.int .i64 r'.k.c) := hSw.hp.row.cell_ (i := 10) rfl
    have x11 : w.cell? ⟨B, 11, none⟩ = some (.int .i64 r'.k.i) := hSw.hp.row.cell_ (i := 11) rfl
    have x12 : w.cell? ⟨B, 12, none⟩ = some (.bool r'.k.hit) := hSw.hp.row.cell_ (i := 12) rfl
    have x13 : w.cell? ⟨B, 13, none⟩ = some (.int .i64 r'.ret) := hSw.hp.row.cell_ (i := 13) rfl
    go_simp
  clear hC
  have hC := hC2
  clear hC2
  (try simp only [Act.put, k1, k2, k3])
  refine mqa 13 rfl (.pointer (some ⟨B', 0, none⟩)) hsel hfr hC (by kernel_rfl) (by decide) (fun _ _ _ h => hq _ _ _ _ _ h) (by rfl) (fun w => ?_) (by first | (right; assumption) | (left; kernel_rfl)) (fun hC2 => ?_)
  · go_simp
  clear hC
  have hC := hC2
  clear hC2
  (try simp only [Act.put, k1, k2, k3])
  refine mqa 14 rfl (.pointer (some ⟨B', 0, none⟩)) hsel hfr hC (by kernel_rfl) (by decide) (fun _ _ _ h => hq _ _ _ _ _ h) (by rfl) (fun w => ?_) (by first | (right; assumption) | (left; kernel_rfl)) (fun hC2 => ?_)
  · go_simp
  clear hC
  have hC := hC2
  clear hC2
  (try simp only [Act.put, k1, k2, k3])
  refine mqa 15 rfl (.pointer (some ⟨B', 4, none⟩)) hsel hfr hC (by kernel_rfl) (by decide) (fun _ _ _ h => hq _ _ _ _ _ h) (by rfl) (fun w => ?_) (by first | (right; assumption) | (left; kernel_rfl)) (fun hC2 => ?_)
  · go_simp
  clear hC
  have hC := hC2
  clear hC2
  (try simp only [Act.put, k1, k2, k3])
  refine mqt 16 rfl [17, 18, 19, 30, 39, 41, 48, 50] (.agg #[.int .i64 r'.op, .int .i64 r'.line, .int .u32 r'.a, .int .u32 r'.b, .int .i64 r'.s, .bool r'.k.on, .int .i64 r'.k.c, .int .i64 r'.k.i, .bool r'.k.hit, .int .i64 r'.ret]) hsel hfr hC (by kernel_rfl) (by kernel_rfl) (fun _ _ _ h => hq _ _ _ _ _ h) (by rfl) (fun w hSw => ?_) (by assumption) (fun hC2 => ?_)
  · (try dsimp only at hSw)
    have x4 : w.cell? ⟨B', 4, none⟩ = some (.int .i64 r'.op) := hSw.hr.row.cell_ (i := 4) rfl
    have x5 : w.cell? ⟨B', 5, none⟩ = some (.int .i64 r'.line) := hSw.hr.row.cell_ (i := 5) rfl
    have x6 : w.cell? ⟨B', 6, none⟩ = some (.int .u32 r'.a) := hSw.hr.row.cell_ (i := 6) rfl
    have x7 : w.cell? ⟨B', 7, none⟩ = some (.int .u32 r'.b) := hSw.hr.row.cell_ (i := 7) rfl
    have x8 : w.cell? ⟨B', 8, none⟩ = some (.int .i64 r'.s) := hSw.hr.row.cell_ (i := 8) rfl
    have x9 : w.cell? ⟨B', 9, none⟩ = some (.bool r'.k.on) := hSw.hr.row.cell_ (i := 9) rfl
    have x10 : w.cell? ⟨B', 10, none⟩ = some (.int .i64 r'.k.c) := hSw.hr.row.cell_ (i := 10) rfl
    have x11 : w.cell? ⟨B', 11, none⟩ = some (.int .i64 r'.k.i) := hSw.hr.row.cell_ (i := 11) rfl
    have x12 : w.cell? ⟨B', 12, none⟩ = some (.bool r'.k.hit) := hSw.hr.row.cell_ (i := 12) rfl
    have x13 : w.cell? ⟨B', 13, none⟩ = some (.int .i64 r'.ret) := hSw.hr.row.cell_ (i := 13) rfl
    go_simp
  clear hC
  have hC := hC2
  clear hC2
  (try simp only [Act.put, k1, k2, k3])
  refine mqa 17 rfl (.bool true) hsel hfr hC (by kernel_rfl) (by decide) (fun _ _ _ h => hq _ _ _ _ _ h) (by rfl) (fun w => ?_) (by first | (right; assumption) | (left; kernel_rfl)) (fun hC2 => ?_)
  · go_simp
  clear hC
  have hC := hC2
  clear hC2
  (try simp only [Act.put, k1, k2, k3])
  refine mqa 18 rfl (.bool true) hsel hfr hC (by kernel_rfl) (by decide) (fun _ _ _ h => hq _ _ _ _ _ h) (by rfl) (fun w => ?_) (by first | (right; assumption) | (left; kernel_rfl)) (fun hC2 => ?_)
  · go_simp
  clear hC
  have hC := hC2
  clear hC2
  (try simp only [Act.put, k1, k2, k3])
  refine mqa 19 rfl (.bool true) hsel hfr hC (by kernel_rfl) (by decide) (fun _ _ _ h => hq _ _ _ _ _ h) (by rfl) (fun w => ?_) (by first | (right; assumption) | (left; kernel_rfl)) (fun hC2 => ?_)
  · go_simp
  clear hC
  have hC := hC2
  clear hC2
  (try simp only [Act.put, k1, k2, k3])
  refine mqa 20 rfl (.pointer (some ⟨B, 0, none⟩)) hsel hfr hC (by kernel_rfl) (by decide) (fun _ _ _ h => hq _ _ _ _ _ h) (by rfl) (fun w => ?_) (by first | (right; assumption) | (left; kernel_rfl)) (fun hC2 => ?_)
  · go_simp
  clear hC
  have hC := hC2
  clear hC2
  (try simp only [Act.put, k1, k2, k3])
  refine mqa 21 rfl (.pointer (some ⟨B, 0, none⟩)) hsel hfr hC (by kernel_rfl) (by decide) (fun _ _ _ h => hq _ _ _ _ _ h) (by rfl) (fun w => ?_) (by first | (right; assumption) | (left; kernel_rfl)) (fun hC2 => ?_)
  · go_simp
  clear hC
  have hC := hC2
  clear hC2
  (try simp only [Act.put, k1, k2, k3])
  refine mqa 22 rfl (.pointer (some ⟨B, 14, none⟩)) hsel hfr hC (by kernel_rfl) (by decide) (fun _ _ _ h => hq _ _ _ _ _ h) (by rfl) (fun w => ?_) (by first | (right; assumption) | (left; kernel_rfl)) (fun hC2 => ?_)
  · go_simp
  clear hC
  have hC := hC2
  clear hC2
  (try simp only [Act.put, k1, k2, k3])
  refine mqt 23 rfl [28, 29, 30, 39, 41, 48, 50] (.agg #[.int .i64 r'.acc.k, .int .i64 r'.acc.c, .int .u32 r'.acc.x, .int .u32 r'.acc.y, .int .u32 r'.acc.o]) hsel hfr hC (by kernel_rfl) (by kernel_rfl) (fun _ _ _ h => hq _ _ _ _ _ h) (by rfl) (fun w hSw => ?_) (by assumption) (fun hC2 => ?_)
  · (try dsimp only at hSw)
    have x14 : w.cell? ⟨B, 14, none⟩ = some (.int .i64 r'.acc.k) := hSw.hp.row.cell_ (i := 14) rfl
    have x15 : w.cell? ⟨B, 15, none⟩ = some (.int .i64 r'.acc.c) := hSw.hp.row.cell_ (i := 15) rfl
    have x16 : w.cell? ⟨B, 16, none⟩ = some (.int .u32 r'.acc.x) := hSw.hp.row.cell_ (i := 16) rfl
    have x17 : w.cell? ⟨B, 17, none⟩ = some (.int .u32 r'.acc.y) := hSw.hp.row.cell_ (i := 17) rfl
    have x18 : w.cell? ⟨B, 18, none⟩ = some (.int .u32 r'.acc.o) := hSw.hp.row.cell_ (i := 18) rfl
    go_simp
  clear hC
  have hC := hC2
  clear hC2
  (try simp only [Act.put, k1, k2, k3])
  refine mqa 24 rfl (.pointer (some ⟨B', 0, none⟩)) hsel hfr hC (by kernel_rfl) (by decide) (fun _ _ _ h => hq _ _ _ _ _ h) (by rfl) (fun w => ?_) (by first | (right; assumption) | (left; kernel_rfl)) (fun hC2 => ?_)
  · go_simp
  clear hC
  have hC := hC2
  clear hC2
  (try simp only [Act.put, k1, k2, k3])
  refine mqa 25 rfl (.pointer (some ⟨B', 0, none⟩)) hsel hfr hC (by kernel_rfl) (by decide) (fun _ _ _ h => hq _ _ _ _ _ h) (by rfl) (fun w => ?_) (by first | (right; assumption) | (left; kernel_rfl)) (fun hC2 => ?_)
  · go_simp
  clear hC
  have hC := hC2
  clear hC2
  (try simp only [Act.put, k1, k2, k3])
  refine mqa 26 rfl (.pointer (some ⟨B', 14, none⟩)) hsel hfr hC (by kernel_rfl) (by decide) (fun _ _ _ h => hq _ _ _ _ _ h) (by rfl) (fun w => ?_) (by first | (right; assumption) | (left; kernel_rfl)) (fun hC2 => ?_)
  · go_simp
  clear hC
  have hC := hC2
  clear hC2
  (try simp only [Act.put, k1, k2, k3])
  refine mqt 27 rfl [28, 29, 30, 39, 41, 48, 50] (.agg #[.int .i64 r'.acc.k, .int .i64 r'.acc.c, .int .u32 r'.acc.x, .int .u32 r'.acc.y, .int .u32 r'.acc.o]) hsel hfr hC (by kernel_rfl) (by kernel_rfl) (fun _ _ _ h => hq _ _ _ _ _ h) (by rfl) (fun w hSw => ?_) (by assumption) (fun hC2 => ?_)
  · (try dsimp only at hSw)
    have x14 : w.cell? ⟨B', 14, none⟩ = some (.int .i64 r'.acc.k) := hSw.hr.row.cell_ (i := 14) rfl
    have x15 : w.cell? ⟨B', 15, none⟩ = some (.int .i64 r'.acc.c) := hSw.hr.row.cell_ (i := 15) rfl
    have x16 : w.cell? ⟨B', 16, none⟩ = some (.int .u32 r'.acc.x) := hSw.hr.row.cell_ (i := 16) rfl
    have x17 : w.cell? ⟨B', 17, none⟩ = some (.int .u32 r'.acc.y) := hSw.hr.row.cell_ (i := 17) rfl
    have x18 : w.cell? ⟨B', 18, none⟩ = some (.int .u32 r'.acc.o) := hSw.hr.row.cell_ (i := 18) rfl
    go_simp
  clear hC
  have hC := hC2
  clear hC2
  (try simp only [Act.put, k1, k2, k3])
  refine mqa 28 rfl (.bool true) hsel hfr hC (by kernel_rfl) (by decide) (fun _ _ _ h => hq _ _ _ _ _ h) (by rfl) (fun w => ?_) (by first | (right; assumption) | (left; kernel_rfl)) (fun hC2 => ?_)
  · go_simp
  clear hC
  have hC := hC2
  clear hC2
  (try simp only [Act.put, k1, k2, k3])
  refine mqa 29 rfl (.bool true) hsel hfr hC (by kernel_rfl) (by decide) (fun _ _ _ h => hq _ _ _ _ _ h) (by rfl) (fun w => ?_) (by first | (right; assumption) | (left; kernel_rfl)) (fun hC2 => ?_)
  · go_simp
  clear hC
  have hC := hC2
  clear hC2
  (try simp only [Act.put, k1, k2, k3])
  refine mqa 30 rfl (.bool true) hsel hfr hC (by kernel_rfl) (by decide) (fun _ _ _ h => hq _ _ _ _ _ h) (by rfl) (fun w => ?_) (by first | (right; assumption) | (left; kernel_rfl)) (fun hC2 => ?_)
  · go_simp
  clear hC
  have hC := hC2
  clear hC2
  (try simp only [Act.put, k1, k2, k3])
  refine mqa 31 rfl (.pointer (some ⟨B, 0, none⟩)) hsel hfr hC (by kernel_rfl) (by decide) (fun _ _ _ h => hq _ _ _ _ _ h) (by rfl) (fun w => ?_) (by first | (right; assumption) | (left; kernel_rfl)) (fun hC2 => ?_)
  · go_simp
  clear hC
  have hC := hC2
  clear hC2
  (try simp only [Act.put, k1, k2, k3])
  refine mqa 32 rfl (.pointer (some ⟨B, 0, none⟩)) hsel hfr hC (by kernel_rfl) (by decide) (fun _ _ _ h => hq _ _ _ _ _ h) (by rfl) (fun w => ?_) (by first | (right; assumption) | (left; kernel_rfl)) (fun hC2 => ?_)
  · go_simp
  clear hC
  have hC := hC2
  clear hC2
  (try simp only [Act.put, k1, k2, k3])
  refine mqa 33 rfl (.pointer (some ⟨B, 19, none⟩)) hsel hfr hC (by kernel_rfl) (by decide) (fun _ _ _ h => hq _ _ _ _ _ h) (by rfl) (fun w => ?_) (by first | (right; assumption) | (left; kernel_rfl)) (fun hC2 => ?_)
  · go_simp
  clear hC
  have hC := hC2
  clear hC2
  (try simp only [Act.put, k1, k2, k3])
  refine mqt 34 rfl [39, 41, 48, 50] (nvp) hsel hfr hC (by kernel_rfl) (by kernel_rfl) (fun _ _ _ h => hq _ _ _ _ _ h) (by rfl) (fun w hSw => ?_) (by assumption) (fun hC2 => ?_)
  · (try dsimp only at hSw)
    have x19 : w.cell? ⟨B, 19, none⟩ = some (nvp) := hSw.hp.row.cell_ (i := 19) rfl
    go_simp
  clear hC
  have hC := hC2
  clear hC2
  (try simp only [Act.put, k1, k2, k3])
  refine mqa 35 rfl (.pointer (some ⟨B', 0, none⟩)) hsel hfr hC (by kernel_rfl) (by decide) (fun _ _ _ h => hq _ _ _ _ _ h) (by rfl) (fun w => ?_) (by first | (right; assumption) | (left; kernel_rfl)) (fun hC2 => ?_)
  · go_simp
  clear hC
  have hC := hC2
  clear hC2
  (try simp only [Act.put, k1, k2, k3])
  refine mqa 36 rfl (.pointer (some ⟨B', 0, none⟩)) hsel hfr hC (by kernel_rfl) (by decide) (fun _ _ _ h => hq _ _ _ _ _ h) (by rfl) (fun w => ?_) (by first | (right; assumption) | (left; kernel_rfl)) (fun hC2 => ?_)
  · go_simp
  clear hC
  have hC := hC2
  clear hC2
  (try simp only [Act.put, k1, k2, k3])
  refine mqa 37 rfl (.pointer (some ⟨B', 19, none⟩)) hsel hfr hC (by kernel_rfl) (by decide) (fun _ _ _ h => hq _ _ _ _ _ h) (by rfl) (fun w => ?_) (by first | (right; assumption) | (left; kernel_rfl)) (fun hC2 => ?_)
  · go_simp
  clear hC
  have hC := hC2
  clear hC2
  (try simp only [Act.put, k1, k2, k3])
  refine mqt 38 rfl [39, 41, 48, 50] (nvr) hsel hfr hC (by kernel_rfl) (by kernel_rfl) (fun _ _ _ h => hq _ _ _ _ _ h) (by rfl) (fun w hSw => ?_) (by assumption) (fun hC2 => ?_)
  · (try dsimp only at hSw)
    have x19 : w.cell? ⟨B', 19, none⟩ = some (nvr) := hSw.hr.row.cell_ (i := 19) rfl
    go_simp
  clear hC
  have hC := hC2
  clear hC2
  (try simp only [Act.put, k1, k2, k3])
  refine mqc 39 rfl hC (by kernel_rfl) (by rfl) (fun K hK => ?_)
  go_simp
  refine (same_notes nvp nvr r'.ns _ HRD1.out.hp.notes.list HRD1.out.hr.notes.list hns).mono ?_
  rintro e w16 ⟨rfl, hO⟩
  have HRD2 := Lib.hid (HRD1.out.keep hO)
  refine hK.out _ _ (.inr HRD2.out) (fun hC2 => ?_)
  have hHeld2 := HRD2.out
  clear hK K hHeld hO HRD1 hC
  have hC := hC2
  clear hC2
  have HRD1 := HRD2
  have hHeld := hHeld2
  clear HRD2 hHeld2
  (try simp only [Act.put, k1, k2, k3])
  refine mqa 40 rfl (.bool true) hsel hfr hC (by kernel_rfl) (by decide) (fun _ _ _ h => hq _ _ _ _ _ h) (by rfl) (fun w => ?_) (by first | (right; assumption) | (left; kernel_rfl)) (fun hC2 => ?_)
  · go_simp
  clear hC
  have hC := hC2
  clear hC2
  (try simp only [Act.put, k1, k2, k3])
  refine mqa 41 rfl (.bool true) hsel hfr hC (by kernel_rfl) (by decide) (fun _ _ _ h => hq _ _ _ _ _ h) (by rfl) (fun w => ?_) (by first | (right; assumption) | (left; kernel_rfl)) (fun hC2 => ?_)
  · go_simp
  clear hC
  have hC := hC2
  clear hC2
  (try simp only [Act.put, k1, k2, k3])
  refine mqa 42 rfl (.pointer (some ⟨b, 0, none⟩)) hsel hfr hC (by kernel_rfl) (by decide) (fun _ _ _ h => hq _ _ _ _ _ h) (by rfl) (fun w => ?_) (by first | (right; assumption) | (left; kernel_rfl)) (fun hC2 => ?_)
  · go_simp
  clear hC
  have hC := hC2
  clear hC2
  (try simp only [Act.put, k1, k2, k3])
  refine mqa 44 rfl (.pointer (some ⟨B', 0, none⟩)) hsel hfr hC (by kernel_rfl) (by decide) (fun _ _ _ h => hq _ _ _ _ _ h) (by rfl) (fun w => ?_) (by first | (right; assumption) | (left; kernel_rfl)) (fun hC2 => ?_)
  · go_simp
  clear hC
  have hC := hC2
  clear hC2
  (try simp only [Act.put, k1, k2, k3])
  refine mqa 45 rfl (.pointer (some ⟨B', 0, none⟩)) hsel hfr hC (by kernel_rfl) (by decide) (fun _ _ _ h => hq _ _ _ _ _ h) (by rfl) (fun w => ?_) (by first | (right; assumption) | (left; kernel_rfl)) (fun hC2 => ?_)
  · go_simp
  clear hC
  have hC := hC2
  clear hC2
  (try simp only [Act.put, k1, k2, k3])
  refine mqa 46 rfl (.pointer (some ⟨B', 0, none⟩)) hsel hfr hC (by kernel_rfl) (by decide) (fun _ _ _ h => hq _ _ _ _ _ h) (by rfl) (fun w => ?_) (by first | (right; assumption) | (left; kernel_rfl)) (fun hC2 => ?_)
  · go_simp
  clear hC
  have hC := hC2
  clear hC2
  (try simp only [Act.put, k1, k2, k3])
  refine mqt 47 rfl [48, 50] (.slice A2 l c2) hsel hfr hC (by kernel_rfl) (by kernel_rfl) (fun _ _ _ h => hq _ _ _ _ _ h) (by rfl) (fun w hSw => ?_) (by assumption) (fun hC2 => ?_)
  · (try dsimp only at hSw)
    have x0 : w.cell? ⟨B', 0, none⟩ = some (.slice A2 l c2) := hSw.hr.row.cell_ (i := 0) rfl
    go_simp
  clear hC
  have hC := hC2
  clear hC2
  (try simp only [Act.put, k1, k2, k3])
  refine mqc 43 rfl hC (by kernel_rfl) (by rfl) (fun K hK => ?_)
  go_simp
  refine (all_n b A' c' l r'.xs _ HRD1.out.hp.memo.mem HRD1.out.hr.len).mono ?_
  intro e w17 hF
  obtain ⟨A6, c6, rfl, hOwn, hO⟩ := hF
  have HW6 := Lib.hid hOwn
  clear hOwn
  have HRD2 := Lib.hid (HRD1.out.keep hO)
  refine hK.out _ _ (.inr HRD2.out) (fun hC2 => ?_)
  have hHeld2 := HRD2.out
  clear hK K hHeld hO HRD1 hC
  have hC := hC2
  clear hC2
  have HRD1 := HRD2
  have hHeld := hHeld2
  clear HRD2 hHeld2
  (try simp only [Act.put, k1, k2, k3])
  refine mqc 48 rfl hC (by kernel_rfl) (by rfl) (fun K hK => ?_)
  go_simp
  refine (same_n A6 A2 c6 c2 l r'.xs r'.xs _ (HW6.out.held_n HRD1.out.hr.len) (HRD1.out.hr.own.held_n HRD1.out.hr.len) (by omega)).mono ?_
  rw [show decide (r'.xs = r'.xs) = true by simp]
  rintro e w18 ⟨rfl, hO⟩
  have HRD2 := Lib.hid (HRD1.out.keep hO)
  refine hK.out _ _ (.inr HRD2.out) (fun hC2 => ?_)
  have hHeld2 := HRD2.out
  clear hK K hHeld hO HRD1 hC
  have hC := hC2
  clear hC2
  have HRD1 := HRD2
  have hHeld := hHeld2
  clear HRD2 hHeld2
  (try simp only [Act.put, k1, k2, k3])
  refine mqa 49 rfl (.bool true) hsel hfr hC (by kernel_rfl) (by decide) (fun _ _ _ h => hq _ _ _ _ _ h) (by rfl) (fun w => ?_) (by first | (right; assumption) | (left; kernel_rfl)) (fun hC2 => ?_)
  · go_simp
  clear hC
  have hC := hC2
  clear hC2
  (try simp only [Act.put, k1, k2, k3])
  refine mqa 50 rfl (.bool true) hsel hfr hC (by kernel_rfl) (by decide) (fun _ _ _ h => hq _ _ _ _ _ h) (by rfl) (fun w => ?_) (by first | (right; assumption) | (left; kernel_rfl)) (fun hC2 => ?_)
  · go_simp
  clear hC
  have hC := hC2
  clear hC2
  (try simp only [Act.put, k1, k2, k3])
  refine mqc 51 rfl hC (by kernel_rfl) (by rfl) (fun K hK => ?_)
  go_simp
  refine (awake_any _).mono ?_
  rintro e w19 ⟨rfl, hO⟩
  have HT9 := Lib.hid (HRD1.out.keep hO)
  refine hK.out _ _ (.inl (by kernel_rfl)) (fun hC2 => ?_)
  clear hK K hHeld hO HRD1 hC
  have hC := hC2
  clear hC2
  (try simp only [Act.put, k1, k2, k3])
  refine mqa 52 rfl (.bool true) hsel hfr hC (by kernel_rfl) (by decide) (fun _ _ _ h => hq _ _ _ _ _ h) (by rfl) (fun w => ?_) (by first | (right; assumption) | (left; kernel_rfl)) (fun hC2 => ?_)
  · go_simp
  clear hC
  have hC := hC2
  clear hC2
  (try simp only [Act.put, k1, k2, k3])
  refine mqa 53 rfl (.bool true) hsel hfr hC (by kernel_rfl) (by decide) (fun _ _ _ h => hq _ _ _ _ _ h) (by rfl) (fun w => ?_) (by first | (right; assumption) | (left; kernel_rfl)) (fun hC2 => ?_)
  · go_simp
  clear hC
  have hC := hC2
  clear hC2
  (try simp only [Act.put, k1, k2, k3])
  refine wpAnyP_done (by kernel_rfl) ?_ _
  exact h _ _ _ _ _ _ _ _ _ _ _ _ _ _ _ _ _ _ _ _ _ _ _ _ _ _ _ _ _ _ _ _ _ _ _ _ _ _ _ _ _ _ _ _ _ _ _ _ _ _ _ _ _ w19 HT9.out.only
end Go.Proofs.Ytaifeejciglkpaa
set_option linter.unusedVariables false
set_option linter.unusedSimpArgs false
namespace Go.Proofs.Ytaifeejciglkpaa
open Go.RowKit
set_option maxHeartbeats 1000000 in
theorem try_0 (B : Nat) (p A : Option Addr) (cp : Nat) (nv : Value) (r : LS) (tail a : Int) (w : World) (h : RunP w B p A cp nv r) (hl : r.ns.length ≤ 900) (hx : Words r.xs) (ha : 0 ≤ r.a ∧ r.a < 4294967296) (hr0 : -1000 ≤ a) (hr1 : a ≤ 1000) (hln : r.line = a) :
    Calls Try.prog 13 #[Value.pointer (some ⟨B, 0, none⟩), .int .i64 tail, .int .i64 a] w (Done B p A cp w (.tuple #[.bool false, .bool false]) ((r.doA 2 (nc r.n r.task) 0 0).go (a + 1))) := by
  have HX := Lib.hid hx
  have HL := Lib.hid hl
  have HA := Lib.hid ha
  have HP := Lib.hid h
  have HLN := Lib.hid hln
  have c5 : w.cell? ⟨B, 5, none⟩ = some (.int .i64 (a)) := by rw [← hln]; exact h.row.cell_ (i := 5) rfl
  clear h hl hx ha hln
  go_enter Try.func13, Try.ntmps13
  go_wp2_with fail
  clear c5
  refine (clear_run B p A cp nv r (a + 1) _ HP.out).mono ?_
  rintro e w1 ⟨rfl, hO, nv1, hP⟩
  have HP1 := Lib.hid hP
  have HO1 := Lib.hid hO
  clear hO hP
  go_wp2
  go_ret2
  exact ⟨rfl, HO1.out, nv1, HP1.out⟩
set_option maxHeartbeats 1000000 in
theorem try_1 (B : Nat) (p A : Option Addr) (cp : Nat) (nv : Value) (r : LS) (tail a : Int) (w : World) (h : RunP w B p A cp nv r) (hl : r.ns.length ≤ 900) (hx : Words r.xs) (ha : 0 ≤ r.a ∧ r.a < 4294967296) (hr0 : -1000 ≤ a) (hr1 : a ≤ 1000) (hln : r.line = a + 1) :
    Calls Try.prog 13 #[Value.pointer (some ⟨B, 0, none⟩), .int .i64 tail, .int .i64 a] w (Done B p A cp w (.tuple #[.bool true, .bool (there r.xs tail && (wordAt r.xs tail == 0))]) (r.doA 5 tail 0 r.me)) := by
  have e1 : (a + 1 == a) = false := beq_eq_false_iff_ne.2 (by omega)
  have HX := Lib.hid hx
  have HL := Lib.hid hl
  have HA := Lib.hid ha
  have HP := Lib.hid h
  have HLN := Lib.hid hln
  have c5 : w.cell? ⟨B, 5, none⟩ = some (.int .i64 (a + 1)) := by rw [← hln]; exact h.row.cell_ (i := 5) rfl
  clear h hl hx ha hln
  go_enter Try.func13, Try.ntmps13
  go_wp2_with fail
  clear c5
  refine (number_any B p A cp nv r _ HP.out).mono ?_
  rintro e w1 ⟨rfl, rfl⟩
  go_wp2_with fail
  refine (cas_run B p A cp nv r tail 0 r.me _ HP.out).mono ?_
  generalize (there r.xs tail && (wordAt r.xs tail == 0)) = d at *
  rintro e w2 ⟨rfl, hO, nv2, hP⟩
  have HP2 := Lib.hid hP
  have HO2 := Lib.hid hO
  clear hO hP HP
  go_wp2
  go_ret2
  exact ⟨rfl, HO2.out, nv2, HP2.out⟩
set_option maxHeartbeats 1000000 in
theorem try_no (B : Nat) (p A : Option Addr) (cp : Nat) (nv : Value) (r : LS) (tail a : Int) (w : World) (h : RunP w B p A cp nv r) (hl : r.ns.length ≤ 900) (hx : Words r.xs) (ha : 0 ≤ r.a ∧ r.a < 4294967296) (hr0 : -1000 ≤ a) (hr1 : a ≤ 1000) (ln : Int) (hln : r.line = ln) (n0 : ln ≠ a) (n1 : ln ≠ a + 1) :
    Calls Try.prog 13 #[Value.pointer (some ⟨B, 0, none⟩), .int .i64 tail, .int .i64 a] w (Done B p A cp w (.tuple #[.bool false, .bool false]) r) := by
  have b0 : (ln == a) = false := beq_eq_false_iff_ne.2 n0
  have b1 : (ln == a + 1) = false := beq_eq_false_iff_ne.2 n1
  clear n0 n1
  have HX := Lib.hid hx
  have HL := Lib.hid hl
  have HA := Lib.hid ha
  have HP := Lib.hid h
  have HLN := Lib.hid hln
  have c5 : w.cell? ⟨B, 5, none⟩ = some (.int .i64 (ln)) := by rw [← hln]; exact h.row.cell_ (i := 5) rfl
  clear h hl hx ha hln
  go_enter Try.func13, Try.ntmps13
  go_wp2
  go_ret2
  exact ⟨rfl, Only.refl _ _, nv, HP.out⟩
theorem try_run (B : Nat) (p A : Option Addr) (cp : Nat) (nv : Value) (r : LS) (tail a : Int) (w : World) (h : RunP w B p A cp nv r) (hl : r.ns.length ≤ 900) (hx : Words r.xs) (ha : 0 ≤ r.a ∧ r.a < 4294967296) (hr0 : -1000 ≤ a) (hr1 : a ≤ 1000) :
    Calls Try.prog 13 #[Value.pointer (some ⟨B, 0, none⟩), .int .i64 tail, .int .i64 a] w (Done B p A cp w (.tuple #[.bool (r.mxTry tail a).2.1, .bool (r.mxTry tail a).2.2]) (r.mxTry tail a).1) := by
  by_cases l0 : r.line = a
  · rw [show r.mxTry tail a = _ by unfold LS.mxTry; rw [if_pos l0]]
    exact try_0 B p A cp nv r tail a w h hl hx ha hr0 hr1 l0
  by_cases l1 : r.line = a + 1
  · rw [show r.mxTry tail a = _ by unfold LS.mxTry; rw [if_neg l0, if_pos l1]]
    exact try_1 B p A cp nv r tail a w h hl hx ha hr0 hr1 l1
  · rw [show r.mxTry tail a = _ by unfold LS.mxTry; rw [if_neg l0, if_neg l1]]
    exact try_no B p A cp nv r tail a w h hl hx ha hr0 hr1 _ rfl l0 l1
theorem try_nil (tail a : Int) (w : World) : Calls Try.prog 13 #[.pointer none, .int .i64 tail, .int .i64 a] w fun e w' => e = .returned (.tuple #[.bool false, .bool false]) ∧ w = w' := by
  go_enter Try.func13, Try.ntmps13
  go_wp2
  go_ret2
  exact ⟨rfl, rfl⟩
end Go.Proofs.Ytaifeejciglkpaa
set_option linter.unusedVariables false
set_option linter.unusedSimpArgs false
namespace Go.Proofs.Ytaifeejciglkpaa
open Go.RowKit
theorem RunR.setA {w : World} {B base : Nat} {A : Option Addr} {l cp : Nat} {nv : Value} {r : LS} (h : RunR w B base A l cp nv r) (v : Int) : RunR (w.setCell ⟨B, 6, none⟩ (.int .u32 v)) B base A l cp nv (r.keepA v) :=
  h.turn ((Only.refl (· = B) w).setCell (p := ⟨B, 6, none⟩) (.inr rfl) _) (h.row.set 6 (.int .u32 v)) rfl rfl
theorem all32 {x : Int} (hx : 0 ≤ x ∧ x < 4294967296) : bits .and .u32 x 4294967295 = x := by
  have := bits_mask .u32 32 (by decide) (fun k h0 h1 => by rw [IntKind.wrap_u32']; omega) 32 (by omega) x hx.1 (by simpa using hx.2)
  have h2 : x % 4294967296 = x := by omega
  simpa [h2] using this
theorem stepI_same {xs : List Int} {n mode i s c : Int} {q q' : Int → Bool} (h : q (wordAt xs c) = q' (wordAt xs c)) : stepI xs n mode i s c q = stepI xs n mode i s c q' := by unfold stepI; rw [h]
end Go.Proofs.Ytaifeejciglkpaa
