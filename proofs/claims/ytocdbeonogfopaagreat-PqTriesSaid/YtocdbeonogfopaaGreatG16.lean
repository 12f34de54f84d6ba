import Derived.Test.YtocdbeonogfopaaGreatProg
import Derived.IntWalk
import Derived.Test.YtocdbeonogfopaaGreatG11
import Derived.Test.YtocdbeonogfopaaGreatG12
import Derived.Test.YtocdbeonogfopaaGreatG15
import Derived.Test.YtocdbeonogfopaaGreatG1
set_option linter.unusedVariables false
set_option linter.unusedSimpArgs false
namespace Go.Proofs.YtocdbeonogfopaaGreat
open Go.RowKit
def Clo (F : Nat) (B : Nat) (p A : Option Addr) (cp : Nat) (r' : LS) (w : World) (e : Ending) (w' : World) : Prop :=
  ∃ caps, e = .returned (.func (.func F) #[] caps) ∧ Only Nil w w' ∧ Calls Tryz.prog F caps w' (Done B p A cp w' (.tuple #[]) r')
theorem aside_b : Aside 4 := ⟨by decide, by decide, by decide⟩
theorem aside_1 {g0 B : Nat} : ∀ x ∈ [(g0, 62, #[Value.pointer (some ⟨B, 0, none⟩)])], Aside x.2.1 := by
  intro x hx
  simp only [List.mem_cons, List.not_mem_nil, or_false] at hx
  rcases hx with rfl
  exact aside_p
theorem aside_2 {g0 B g1 : Nat} {v : Value} : ∀ x ∈ [(g0, 62, #[Value.pointer (some ⟨B, 0, none⟩)]), (g1, 3, #[v])], Aside x.2.1 := by
  intro x hx
  simp only [List.mem_cons, List.not_mem_nil, or_false] at hx
  rcases hx with rfl | rfl
  · exact aside_p
  · exact aside_i
theorem aside_3 {g0 B g1 g2 : Nat} {v v' : Value} : ∀ x ∈ [(g0, 62, #[Value.pointer (some ⟨B, 0, none⟩)]), (g1, 3, #[v]), (g2, 4, #[v'])], Aside x.2.1 := by
  intro x hx
  simp only [List.mem_cons, List.not_mem_nil, or_false] at hx
  rcases hx with rfl | rfl | rfl
  · exact aside_p
  · exact aside_i
  · exact aside_b
theorem wget_bit1 (v : Int) : getI v 0 1 = v % 2 := by
  show v / pw 0 % pw 1 = v % 2
  rw [show pw 0 = 1 from rfl, show pw 1 = 2 from rfl, Int.ediv_one]
theorem wpres_any (v : Int) (w : World) (hv : 0 ≤ v ∧ v < 4294967296) :
    Calls Tryz.prog 60 #[.int .u32 v] w fun e w' => e = .returned (.int .u32 (presI v)) ∧ Drew w w' := by
  have HV := Lib.hid hv
  clear hv
  go_enter Tryz.func60, Tryz.ntmps60
  go_wp2_with fail
  refine (get_any v 0 1 _ HV.out).mono ?_
  rw [wget_bit1]
  generalize hb : v % 2 = b
  have hb2 : 0 ≤ b ∧ b < 2 := by omega
  have HB := Lib.hid (show presI v = 2 + b by unfold presI; rw [hb])
  clear hb
  rintro e w1 ⟨rfl, hd⟩
  have HD := Lib.hid hd
  clear hd
  go_wp2
  go_ret
  refine ⟨congrArg (fun x => Ending.returned (.int .u32 x)) ?_, HD.out⟩
  rw [HB.out]
theorem wEnter_of {r r' : LS} {d : Bool} (h : r.mxEnter 2 2 = (r', d)) : r.wEnter = if d then r'.go 5 else r' := by unfold LS.wEnter; rw [h]
theorem wGive_of {r r' : LS} {a : Int} {ok : Bool} {d : Bool} (h : r.mxGive 2 a [8] = (r', d)) : r.wGive a ok = if d then r'.fin ok else r' := by unfold LS.wGive; rw [h]
theorem wTry_of {r r' : LS} {d i : Bool} (h : r.mxTry 2 0 = (r', d, i)) : r.wTry = if d then (if i then (r'.note 2 2).go 2 else (r'.note 5 0).fin false) else r' := by unfold LS.wTry; rw [h]
theorem wtry_done {r : LS} (h : (r.mxTry 2 0).2.1 = false) : (r.mxTry 2 0).2.2 = false := by
  unfold LS.mxTry at h ⊢
  by_cases l0 : r.line = 0
  · rw [if_pos l0]
  by_cases l1 : r.line = 0 + 1
  · rw [if_neg l0, if_pos l1] at h; cases h
  · rw [if_neg l0, if_neg l1]
theorem wtry_ns (r : LS) : (r.mxTry 2 0).1.ns = r.ns := by unfold LS.mxTry; (repeat' split) <;> rfl
-- a reader's line
theorem read_make (B : Nat) (p A : Option Addr) (cp : Nat) (nv : Value) (r : LS) (r' : LS) (w : World) (h : RunP w B p A cp nv r) (hc : ∀ w', RunP w' B p A cp nv r → Calls Tryz.prog 52 #[Value.pointer (some ⟨B, 0, none⟩)] w' (Done B p A cp w' (.tuple #[]) r')) :
    Calls Tryz.prog 38 #[Value.pointer (some ⟨B, 0, none⟩)] w (Clo 51 B p A cp r' w) := by
  have hclo : ∀ (g0 : Nat) (w : World), RunP w B p A cp nv r → Row w g0 62 #[Value.pointer (some ⟨B, 0, none⟩)] → Calls Tryz.prog 51 #[.pointer (some ⟨g0, 0, none⟩)] w (Done B p A cp w (.tuple #[]) r') := by
    intro g0 w h hb
    have HC := Lib.hid (hc w h)
    have HO0 := Lib.hid (Only.refl (TurnB B A) w)
    have b0 : w.cell? ⟨g0, 0, none⟩ = some (Value.pointer (some ⟨B, 0, none⟩)) := hb.cell_ (i := 0) rfl
    clear h hb hc
    go_enter Tryz.func51, Tryz.ntmps51
    go_wp2_with fail
    clear b0
    refine HC.out.mono ?_
    rintro e w4 ⟨rfl, hO, nv4, hP⟩
    have HO4 := Lib.hid (HO0.out.trans hO)
    have HP4 := Lib.hid hP
    clear hO hP
    go_wp2
    go_returns
    exact ⟨rfl, HO4.out, nv4, HP4.out⟩
  have e0 := (Only.refl Nil w).alloc (.cells #[Value.pointer (some ⟨B, 0, none⟩)] 62)
  have HC := Lib.hid (hclo _ _ (h.keep e0) (Row.new w 62 #[Value.pointer (some ⟨B, 0, none⟩)]))
  have HE := Lib.hid e0
  clear h e0 hc hclo
  go_enter Tryz.func38, Tryz.ntmps38
  go_wp2
  go_ret
  exact ⟨_, rfl, HE.out, HC.out⟩
-- entering the queue
theorem wenter_clo (B : Nat) (p A : Option Addr) (cp : Nat) (nv : Value) (r : LS) (g0 : Nat) (w : World) (h : RunP w B p A cp nv r) (hl : r.ns.length ≤ 900) (hx : Words r.xs) (ha : 0 ≤ r.a ∧ r.a < 4294967296) (hb : RowsL w [(g0, 62, #[Value.pointer (some ⟨B, 0, none⟩)])]) :
    Calls Tryz.prog 53 #[.pointer (some ⟨g0, 0, none⟩)] w (Done B p A cp w (.tuple #[]) r.wEnter) := by
  have hc := enter_run B p A cp nv r 2 2 w h hl hx ha
  obtain ⟨r', d, hd⟩ : ∃ r' d, r.mxEnter 2 2 = (r', d) := ⟨_, _, rfl⟩
  rw [wEnter_of hd]
  rw [hd] at hc
  have HC := Lib.hid hc
  clear hc hd hx ha
  have HP0 := Lib.hid h
  have HB0 := Lib.hid hb
  have HL := Lib.hid hl
  have HO0 := Lib.hid (Only.refl (TurnB B A) w)
  clear h hb hl
  have b0 : w.cell? ⟨g0, 0, none⟩ = some (Value.pointer (some ⟨B, 0, none⟩)) := (show Row w g0 62 #[Value.pointer (some ⟨B, 0, none⟩)] from HB0.out _ (.head _)).cell_ (i := 0) rfl
  cases d
  · rw [if_neg Bool.false_ne_true]
    go_enter Tryz.func53, Tryz.ntmps53
    go_wp2_with fail
    clear b0
    refine HC.out.mono ?_
    rintro e w1 ⟨rfl, hO, nv1, hP⟩
    have HO1 := Lib.hid (HO0.out.trans hO)
    have HB1 := Lib.hid (HB0.out.turn HP0.out hO aside_1)
    have HP1 := Lib.hid hP
    clear hO hP HP0 HO0 HB0
    go_wp2
    go_returns
    exact ⟨rfl, HO1.out, nv1, HP1.out⟩
  · rw [if_pos rfl]
    go_enter Tryz.func53, Tryz.ntmps53
    go_wp2_with fail
    clear b0
    refine HC.out.mono ?_
    rintro e w1 ⟨rfl, hO, nv1, hP⟩
    have HO1 := Lib.hid (HO0.out.trans hO)
    have HB1 := Lib.hid (HB0.out.turn HP0.out hO aside_1)
    have HP1 := Lib.hid hP
    clear hO hP HP0 HO0 HB0
    have b0 : w1.cell? ⟨g0, 0, none⟩ = some (Value.pointer (some ⟨B, 0, none⟩)) := (show Row w1 g0 62 #[Value.pointer (some ⟨B, 0, none⟩)] from HB1.out _ (.head _)).cell_ (i := 0) rfl
    go_wp2_with fail
    clear b0
    refine (go_run B p A cp nv1 _ 5 _ HP1.out).mono ?_
    rintro e w4 ⟨rfl, hO, nv4, hP⟩
    have HO4 := Lib.hid (HO1.out.trans hO)
    have HP4 := Lib.hid hP
    clear hO hP
    go_wp2
    go_returns
    exact ⟨rfl, HO4.out, nv4, HP4.out⟩
theorem wenter_make (B : Nat) (p A : Option Addr) (cp : Nat) (nv : Value) (r : LS) (w : World) (h : RunP w B p A cp nv r) (hl : r.ns.length ≤ 900) (hx : Words r.xs) (ha : 0 ≤ r.a ∧ r.a < 4294967296) : Calls Tryz.prog 39 #[Value.pointer (some ⟨B, 0, none⟩)] w (Clo 53 B p A cp r.wEnter w) := by
  have e0 := (Only.refl Nil w).alloc (.cells #[Value.pointer (some ⟨B, 0, none⟩)] 62)
  have HC := Lib.hid (wenter_clo B p A cp nv r _ _ (h.keep e0) hl hx ha (RowsL.cons (L := []) (fun _ h => by simp at h) (Row.new w 62 #[Value.pointer (some ⟨B, 0, none⟩)])))
  have HE := Lib.hid e0
  clear h hl e0
  go_enter Tryz.func39, Tryz.ntmps39
  go_wp2
  go_ret
  exact ⟨_, rfl, HE.out, HC.out⟩
-- giving on
theorem whats_1 {B : Nat} {p A : Option Addr} {cp : Nat} {nv : Value} {r : LS} {w : World} (h : RunP w B p A cp nv r) (x : Int) : Whats B A (w.alloc (.cells #[.int .i64 x] 3)) (.slice (some ⟨w.heap.size, 0, none⟩) 1 1) [x] := by
  have h8 := h.keep ((Only.refl Nil w).alloc (.cells #[.int .i64 x] 3))
  have hr := Row.new w 3 #[.int .i64 x]
  exact ⟨_, _, rfl, fun w' ho i y hi => ⟨w.heap.size, 0, rfl, by
    match i, hi with
    | 0, hi => cases hi; exact (h8.aside hr ho aside_i).cell_ (i := 0) rfl
    | i + 1, hi => simp at hi⟩⟩
theorem wgive_clo (B : Nat) (p A : Option Addr) (cp : Nat) (nv : Value) (r : LS) (a : Int) (ok : Bool) (g0 g1 g2 : Nat) (w : World) (h : RunP w B p A cp nv r) (hl : r.ns.length ≤ 900) (hx : Words r.xs) (ha : 0 ≤ r.a ∧ r.a < 4294967296) (hr0 : -1000 ≤ a) (hr1 : a ≤ 1000)
    (hb : RowsL w [(g0, 62, #[Value.pointer (some ⟨B, 0, none⟩)]), (g1, 3, #[.int .i64 a]), (g2, 4, #[.bool ok])]) :
    Calls Tryz.prog 70 #[.pointer (some ⟨g0, 0, none⟩), .pointer (some ⟨g1, 0, none⟩), .pointer (some ⟨g2, 0, none⟩)] w (Done B p A cp w (.tuple #[]) (r.wGive a ok)) := by
  have e0 := (Only.refl Nil w).alloc (.cells #[.int .i64 8] 3)
  have hc := give_run B p A cp nv r 2 a _ (h.keep e0) hl hx ha _ [8] (whats_1 h 8) (by decide) hr0 hr1
  obtain ⟨r', d, hd⟩ : ∃ r' d, r.mxGive 2 a [8] = (r', d) := ⟨_, _, rfl⟩
  rw [wGive_of hd]
  rw [hd] at hc
  have HC := Lib.hid hc
  have HE := Lib.hid e0
  clear hc hd hx ha hr0 hr1 e0
  have HP0 := Lib.hid h
  have HB0 := Lib.hid hb
  have HL := Lib.hid hl
  have HO0 := Lib.hid (Only.refl (TurnB B A) w)
  clear h hb hl
  have HP0b := Lib.hid (HP0.out.keep HE.out)
  have HB0b := Lib.hid (HB0.out.keep HE.out)
  have HO0b := Lib.hid (HO0.out.trans (HE.out.mono (fun _ _ h => h.elim)))
  have b0 : w.cell? ⟨g0, 0, none⟩ = some (Value.pointer (some ⟨B, 0, none⟩)) := (show Row w g0 62 #[Value.pointer (some ⟨B, 0, none⟩)] from HB0.out _ (.head _)).cell_ (i := 0) rfl
  have b1 : w.cell? ⟨g1, 0, none⟩ = some (.int .i64 a) := (show Row w g1 3 #[.int .i64 a] from HB0.out _ (.tail _ (.head _))).cell_ (i := 0) rfl
  clear HP0 HB0 HO0 HE
  cases d
  · rw [if_neg Bool.false_ne_true]
    go_enter Tryz.func70, Tryz.ntmps70
    go_wp2_with fail
    clear b0 b1
    refine HC.out.mono ?_
    rintro e w1 ⟨rfl, hO, nv1, hP⟩
    have HO1 := Lib.hid (HO0b.out.trans hO)
    have HB1 := Lib.hid (HB0b.out.turn HP0b.out hO aside_3)
    have HP1 := Lib.hid hP
    clear hO hP HP0b HO0b HB0b
    go_wp2
    go_returns
    exact ⟨rfl, HO1.out, nv1, HP1.out⟩
  · rw [if_pos rfl]
    go_enter Tryz.func70, Tryz.ntmps70
    go_wp2_with fail
    clear b0 b1
    refine HC.out.mono ?_
    rintro e w1 ⟨rfl, hO, nv1, hP⟩
    have HO1 := Lib.hid (HO0b.out.trans hO)
    have HB1 := Lib.hid (HB0b.out.turn HP0b.out hO aside_3)
    have HP1 := Lib.hid hP
    clear hO hP HP0b HO0b HB0b
    have b0 : w1.cell? ⟨g0, 0, none⟩ = some (Value.pointer (some ⟨B, 0, none⟩)) := (show Row w1 g0 62 #[Value.pointer (some ⟨B, 0, none⟩)] from HB1.out _ (.head _)).cell_ (i := 0) rfl
    have b2 : w1.cell? ⟨g2, 0, none⟩ = some (.bool ok) := (show Row w1 g2 4 #[.bool ok] from HB1.out _ (.tail _ (.tail _ (.head _)))).cell_ (i := 0) rfl
    go_wp2_with fail
    clear b0 b2
    refine (end_run B p A cp nv1 _ _ ok HP1.out).mono ?_
    rintro e w4 ⟨rfl, hO, nv4, hP⟩
    have HO4 := Lib.hid (HO1.out.trans hO)
    have HP4 := Lib.hid hP
    clear hO hP
    go_wp2
    go_returns
    exact ⟨rfl, HO4.out, nv4, HP4.out⟩
theorem wgive_make (B : Nat) (p A : Option Addr) (cp : Nat) (nv : Value) (r : LS) (a : Int) (ok : Bool) (w : World) (h : RunP w B p A cp nv r) (hl : r.ns.length ≤ 900) (hx : Words r.xs) (ha : 0 ≤ r.a ∧ r.a < 4294967296) (hr0 : -1000 ≤ a) (hr1 : a ≤ 1000) :
    Calls Tryz.prog 45 #[Value.pointer (some ⟨B, 0, none⟩), .int .i64 a, .bool ok] w (Clo 70 B p A cp (r.wGive a ok) w) := by
  have e0 := (((Only.refl Nil w).alloc (.cells #[Value.pointer (some ⟨B, 0, none⟩)] 62)).alloc (.cells #[.int .i64 a] 3)).alloc (.cells #[.bool ok] 4)
  have HC := Lib.hid (wgive_clo B p A cp nv r a ok w.heap.size (w.heap.size + 1) (w.heap.size + 1 + 1) _ (h.keep e0) hl hx ha hr0 hr1 (RowsL.cons (L := [_, _]) (RowsL.cons (L := [_]) (RowsL.cons (L := []) (fun _ h => by simp at h) (Row.at (by simp))) ((Row.at (by simp)).alloc _)) (((Row.new w 62 #[Value.pointer (some ⟨B, 0, none⟩)]).alloc _).alloc _)))
  have HE := Lib.hid e0
  clear h hl hx ha e0 hr0 hr1
  go_enter Tryz.func45, Tryz.ntmps45
  go_wp2
  go_ret
  exact ⟨_, rfl, HE.out, HC.out⟩
-- a try
theorem wtry_clo (B : Nat) (p A : Option Addr) (cp : Nat) (nv : Value) (r : LS) (g0 : Nat) (w : World) (h : RunP w B p A cp nv r) (hl : r.ns.length ≤ 900) (hx : Words r.xs) (ha : 0 ≤ r.a ∧ r.a < 4294967296) (hb : RowsL w [(g0, 62, #[Value.pointer (some ⟨B, 0, none⟩)])]) :
    Calls Tryz.prog 114 #[.pointer (some ⟨g0, 0, none⟩)] w (Done B p A cp w (.tuple #[]) r.wTry) := by
  have hc := try_run B p A cp nv r 2 0 w h hl hx ha (by decide) (by decide)
  have hg : (r.mxTry 2 0).1.ns.length ≤ 900 := by rw [wtry_ns]; exact hl
  have hdi := wtry_done (r := r)
  obtain ⟨r', d, i, hd⟩ : ∃ r' d i, r.mxTry 2 0 = (r', d, i) := ⟨_, _, _, rfl⟩
  rw [wTry_of hd]
  rw [hd] at hc hdi hg
  have HC := Lib.hid hc
  have HG := Lib.hid (show r'.ns.length ≤ 900 from hg)
  clear hc hd hx ha hg
  have HP0 := Lib.hid h
  have HB0 := Lib.hid hb
  have HL := Lib.hid hl
  have HO0 := Lib.hid (Only.refl (TurnB B A) w)
  clear h hb hl
  have b0 : w.cell? ⟨g0, 0, none⟩ = some (Value.pointer (some ⟨B, 0, none⟩)) := (show Row w g0 62 #[Value.pointer (some ⟨B, 0, none⟩)] from HB0.out _ (.head _)).cell_ (i := 0) rfl
  cases d
  · have hi : i = false := hdi rfl
    subst hi
    rw [if_neg Bool.false_ne_true]
    clear hdi
    go_enter Tryz.func114, Tryz.ntmps114
    go_wp2_with fail
    clear b0
    refine HC.out.mono ?_
    rintro e w1 ⟨rfl, hO, nv1, hP⟩
    have HO1 := Lib.hid (HO0.out.trans hO)
    have HB1 := Lib.hid (HB0.out.turn HP0.out hO aside_1)
    have HP1 := Lib.hid hP
    clear hO hP HP0 HO0 HB0
    go_wp2
    go_returns
    exact ⟨rfl, HO1.out, nv1, HP1.out⟩
  · clear hdi
    cases i
    · rw [if_pos rfl, if_neg Bool.false_ne_true]
      go_enter Tryz.func114, Tryz.ntmps114
      go_wp2_with fail
      clear b0
      refine HC.out.mono ?_
      rintro e w1 ⟨rfl, hO, nv1, hP⟩
      have HO1 := Lib.hid (HO0.out.trans hO)
      have HB1 := Lib.hid (HB0.out.turn HP0.out hO aside_1)
      have HP1 := Lib.hid hP
      clear hO hP HP0 HO0 HB0
      have b0 : w1.cell? ⟨g0, 0, none⟩ = some (Value.pointer (some ⟨B, 0, none⟩)) := (show Row w1 g0 62 #[Value.pointer (some ⟨B, 0, none⟩)] from HB1.out _ (.head _)).cell_ (i := 0) rfl
      go_wp2_with fail
      clear b0
      refine (note_run B p A cp nv1 _ 5 0 _ HP1.out (Nat.le_trans HG.out (by decide))).mono ?_
      rintro e w2 ⟨rfl, hO, nv2, hP⟩
      have HO2 := Lib.hid (HO1.out.trans hO)
      have HB2 := Lib.hid (HB1.out.turn HP1.out hO aside_1)
      have HP2 := Lib.hid hP
      clear hO hP HP1 HO1 HB1
      have b0 : w2.cell? ⟨g0, 0, none⟩ = some (Value.pointer (some ⟨B, 0, none⟩)) := (show Row w2 g0 62 #[Value.pointer (some ⟨B, 0, none⟩)] from HB2.out _ (.head _)).cell_ (i := 0) rfl
      go_wp2_with fail
      clear b0
      refine (end_run B p A cp nv2 _ _ false HP2.out).mono ?_
      rintro e w4 ⟨rfl, hO, nv4, hP⟩
      have HO4 := Lib.hid (HO2.out.trans hO)
      have HP4 := Lib.hid hP
      clear hO hP
      go_wp2
      go_returns
      exact ⟨rfl, HO4.out, nv4, HP4.out⟩
    · rw [if_pos rfl, if_pos rfl]
      go_enter Tryz.func114, Tryz.ntmps114
      go_wp2_with fail
      clear b0
      refine HC.out.mono ?_
      rintro e w1 ⟨rfl, hO, nv1, hP⟩
      have HO1 := Lib.hid (HO0.out.trans hO)
      have HB1 := Lib.hid (HB0.out.turn HP0.out hO aside_1)
      have HP1 := Lib.hid hP
      clear hO hP HP0 HO0 HB0
      have b0 : w1.cell? ⟨g0, 0, none⟩ = some (Value.pointer (some ⟨B, 0, none⟩)) := (show Row w1 g0 62 #[Value.pointer (some ⟨B, 0, none⟩)] from HB1.out _ (.head _)).cell_ (i := 0) rfl
      go_wp2_with fail
      clear b0
      refine (note_run B p A cp nv1 _ 2 2 _ HP1.out (Nat.le_trans HG.out (by decide))).mono ?_
      rintro e w2 ⟨rfl, hO, nv2, hP⟩
      have HO2 := Lib.hid (HO1.out.trans hO)
      have HB2 := Lib.hid (HB1.out.turn HP1.out hO aside_1)
      have HP2 := Lib.hid hP
      clear hO hP HP1 HO1 HB1
      have b0 : w2.cell? ⟨g0, 0, none⟩ = some (Value.pointer (some ⟨B, 0, none⟩)) := (show Row w2 g0 62 #[Value.pointer (some ⟨B, 0, none⟩)] from HB2.out _ (.head _)).cell_ (i := 0) rfl
      go_wp2_with fail
      clear b0
      refine (go_run B p A cp nv2 _ 2 _ HP2.out).mono ?_
      rintro e w4 ⟨rfl, hO, nv4, hP⟩
      have HO4 := Lib.hid (HO2.out.trans hO)
      have HP4 := Lib.hid hP
      clear hO hP
      go_wp2
      go_returns
      exact ⟨rfl, HO4.out, nv4, HP4.out⟩
theorem wtry_make (B : Nat) (p A : Option Addr) (cp : Nat) (nv : Value) (r : LS) (w : World) (h : RunP w B p A cp nv r) (hl : r.ns.length ≤ 900) (hx : Words r.xs) (ha : 0 ≤ r.a ∧ r.a < 4294967296) : Calls Tryz.prog 72 #[Value.pointer (some ⟨B, 0, none⟩)] w (Clo 114 B p A cp r.wTry w) := by
  have e0 := (Only.refl Nil w).alloc (.cells #[Value.pointer (some ⟨B, 0, none⟩)] 62)
  have HC := Lib.hid (wtry_clo B p A cp nv r _ _ (h.keep e0) hl hx ha (RowsL.cons (L := []) (fun _ h => by simp at h) (Row.new w 62 #[Value.pointer (some ⟨B, 0, none⟩)])))
  have HE := Lib.hid e0
  clear h hl e0
  go_enter Tryz.func72, Tryz.ntmps72
  go_wp2
  go_ret
  exact ⟨_, rfl, HE.out, HC.out⟩
-- a load that is kept
set_option maxHeartbeats 1000000 in
theorem wkeep_clo (B : Nat) (p A : Option Addr) (cp : Nat) (nv : Value) (r : LS) (n : Int) (g0 g1 : Nat) (w : World) (h : RunP w B p A cp nv r) (hl : r.ns.length ≤ 900) (hb : RowsL w [(g0, 62, #[Value.pointer (some ⟨B, 0, none⟩)]), (g1, 3, #[.int .i64 n])]) :
    Calls Tryz.prog 56 #[.pointer (some ⟨g0, 0, none⟩), .pointer (some ⟨g1, 0, none⟩)] w (Done B p A cp w (.tuple #[]) (r.wKeep n)) := by
  have HP0 := Lib.hid h
  have HB0 := Lib.hid hb
  have HL := Lib.hid hl
  have HO0 := Lib.hid (Only.refl (TurnB B A) w)
  clear h hb hl
  have b0 : w.cell? ⟨g0, 0, none⟩ = some (Value.pointer (some ⟨B, 0, none⟩)) := (show Row w g0 62 #[Value.pointer (some ⟨B, 0, none⟩)] from HB0.out _ (.head _)).cell_ (i := 0) rfl
  go_enter Tryz.func56, Tryz.ntmps56
  go_upto_region 0 with (fail)
  refine wp_region_phase (n := 7) 6 (fun w => w.cell? ⟨g0, 0, none⟩ = some (Value.pointer (some ⟨B, 0, none⟩))) rfl (by kernel_rfl) b0 (fun hHeld => ?_)
  clear b0
  have HP0b := Lib.hid (HP0.out.keep (Only.refl Nil w).drew)
  have HB0b := Lib.hid (HB0.out.keep (Only.refl Nil w).drew)
  have HO0b := Lib.hid HO0.out.drew
  clear HP0 HB0 HO0
  generalize w.drew = w0 at *
  refine mpt 0 rfl (Value.pointer (some ⟨B, 0, none⟩)) (fun w hSw => ?_) ?_
  · (try dsimp only at hSw)
    go_split_ands
    go_simp
  (try simp only [Act.put, k1, k2, k3])
  refine mpt 1 rfl (Value.pointer (some ⟨B, 0, none⟩)) (fun w hSw => ?_) ?_
  · (try dsimp only at hSw)
    go_split_ands
    go_simp
  (try simp only [Act.put, k1, k2, k3])
  refine mpc 2 rfl (by kernel_rfl) (by rfl) (fun K hK => ?_)
  go_simp
  refine (load_run B p A cp nv r 3 _ HP0b.out).mono ?_
  rintro e w1 ⟨rfl, hO, nv1, hP⟩
  have HO1 := Lib.hid (HO0b.out.trans hO)
  have HB1 := Lib.hid (HB0b.out.turn HP0b.out hO aside_2)
  have HP1 := Lib.hid hP
  clear hO hP HP0b HO0b HB0b
  have hHeld2 : w1.cell? ⟨g0, 0, none⟩ = some (Value.pointer (some ⟨B, 0, none⟩)) := (show Row w1 g0 62 #[Value.pointer (some ⟨B, 0, none⟩)] from HB1.out _ (.head _)).cell_ (i := 0) rfl
  refine hK.out _ _ (.inr hHeld2) ?_
  clear hK K hHeld
  (try simp only [Act.put, k1, k2, k3])
  refine mpa 3 rfl (Value.pointer (some ⟨B, 0, none⟩)) (fun w => ?_) ?_
  · go_simp
  (try simp only [Act.put, k1, k2, k3])
  refine mpa 4 rfl (.pointer (some ⟨B, 4, none⟩)) (fun w => ?_) ?_
  · go_simp
  (try simp only [Act.put, k1, k2, k3])
  refine mpa 5 rfl (.pointer (some ⟨B, 7, none⟩)) (fun w => ?_) ?_
  · go_simp
  (try simp only [Act.put, k1, k2, k3])
  have c6 : w1.cell? ⟨B, 7, none⟩ = some (.int .u32 (r.b)) := HP1.out.row.cell_ (i := 7) rfl
  have f6 : w1.frozen? ⟨B, 7, none⟩ = false := HP1.out.row.frozen 7
  refine mpc 6 rfl (by kernel_rfl) (by rfl) (fun K hK => ?_)
  go_simp
  have HP2 := Lib.hid (HP1.out.setB (wordAt r.xs 3))
  have HO2 := Lib.hid (HO1.out.setCell (p := ⟨B, 7, none⟩) (.inr (.inl rfl)) (.int .u32 (wordAt r.xs 3)))
  have HB2 := Lib.hid (HB1.out.turn HP1.out ((Only.refl (TurnB B A) w1).setCell (p := ⟨B, 7, none⟩) (.inr (.inl rfl)) (.int .u32 (wordAt r.xs 3))) aside_2)
  refine hK.out _ _ (.inl (by kernel_rfl)) ?_
  clear hK K hHeld2 c6 f6 HP1 HO1 HB1
  generalize w1.setCell ⟨B, 7, none⟩ (.int .u32 (wordAt r.xs 3)) = w2 at *
  (try simp only [Act.put, k1, k2, k3])
  refine wpAnyP_done (by kernel_rfl) ?_ _
  have b0 : w2.cell? ⟨g0, 0, none⟩ = some (Value.pointer (some ⟨B, 0, none⟩)) := (show Row w2 g0 62 #[Value.pointer (some ⟨B, 0, none⟩)] from HB2.out _ (.head _)).cell_ (i := 0) rfl
  have b1 : w2.cell? ⟨g1, 0, none⟩ = some (.int .i64 n) := (show Row w2 g1 3 #[.int .i64 n] from HB2.out _ (.tail _ (.head _))).cell_ (i := 0) rfl
  go_wp2_with fail
  clear b0 b1
  refine (go_run B p A cp nv1 _ n _ HP2.out).mono ?_
  rintro e w4 ⟨rfl, hO, nv4, hP⟩
  have HO4 := Lib.hid (HO2.out.trans hO)
  have HP4 := Lib.hid hP
  clear hO hP
  go_wp2
  go_returns
  exact ⟨rfl, HO4.out, nv4, HP4.out⟩
theorem wkeep_make (B : Nat) (p A : Option Addr) (cp : Nat) (nv : Value) (r : LS) (n : Int) (w : World) (h : RunP w B p A cp nv r) (hl : r.ns.length ≤ 900) :
    Calls Tryz.prog 40 #[Value.pointer (some ⟨B, 0, none⟩), .int .i64 n] w (Clo 56 B p A cp (r.wKeep n) w) := by
  have e0 := ((Only.refl Nil w).alloc (.cells #[Value.pointer (some ⟨B, 0, none⟩)] 62)).alloc (.cells #[.int .i64 n] 3)
  have HC := Lib.hid (wkeep_clo B p A cp nv r n w.heap.size (w.heap.size + 1) _ (h.keep e0) hl  (RowsL.cons (L := [_]) (RowsL.cons (L := []) (fun _ h => by simp at h) (Row.at (by simp))) ((Row.new w 62 #[Value.pointer (some ⟨B, 0, none⟩)]).alloc _)))
  have HE := Lib.hid e0
  clear h hl e0
  go_enter Tryz.func40, Tryz.ntmps40
  go_wp2
  go_ret
  exact ⟨_, rfl, HE.out, HC.out⟩
set_option maxHeartbeats 1000000 in
theorem wcom_clo (B : Nat) (p A : Option Addr) (cp : Nat) (nv : Value) (r : LS) (g0 : Nat) (w : World) (h : RunP w B p A cp nv r) (hl : r.ns.length ≤ 900) (hb : RowsL w [(g0, 62, #[Value.pointer (some ⟨B, 0, none⟩)])]) :
    Calls Tryz.prog 116 #[.pointer (some ⟨g0, 0, none⟩)] w (Done B p A cp w (.tuple #[]) (r.pLook 0 3)) := by
  have HP0 := Lib.hid h
  have HB0 := Lib.hid hb
  have HL := Lib.hid hl
  have HO0 := Lib.hid (Only.refl (TurnB B A) w)
  clear h hb hl
  have b0 : w.cell? ⟨g0, 0, none⟩ = some (Value.pointer (some ⟨B, 0, none⟩)) := (show Row w g0 62 #[Value.pointer (some ⟨B, 0, none⟩)] from HB0.out _ (.head _)).cell_ (i := 0) rfl
  go_enter Tryz.func116, Tryz.ntmps116
  go_upto_region 0 with (fail)
  refine wp_region_phase (n := 7) 6 (fun w => w.cell? ⟨g0, 0, none⟩ = some (Value.pointer (some ⟨B, 0, none⟩))) rfl (by kernel_rfl) b0 (fun hHeld => ?_)
  clear b0
  have HP0b := Lib.hid (HP0.out.keep (Only.refl Nil w).drew)
  have HB0b := Lib.hid (HB0.out.keep (Only.refl Nil w).drew)
  have HO0b := Lib.hid HO0.out.drew
  clear HP0 HB0 HO0
  generalize w.drew = w0 at *
  refine mpt 0 rfl (Value.pointer (some ⟨B, 0, none⟩)) (fun w hSw => ?_) ?_
  · (try dsimp only at hSw)
    go_split_ands
    go_simp
  (try simp only [Act.put, k1, k2, k3])
  refine mpt 1 rfl (Value.pointer (some ⟨B, 0, none⟩)) (fun w hSw => ?_) ?_
  · (try dsimp only at hSw)
    go_split_ands
    go_simp
  (try simp only [Act.put, k1, k2, k3])
  refine mpc 2 rfl (by kernel_rfl) (by rfl) (fun K hK => ?_)
  go_simp
  refine (load_run B p A cp nv r 0 _ HP0b.out).mono ?_
  rintro e w1 ⟨rfl, hO, nv1, hP⟩
  have HO1 := Lib.hid (HO0b.out.trans hO)
  have HB1 := Lib.hid (HB0b.out.turn HP0b.out hO aside_1)
  have HP1 := Lib.hid hP
  clear hO hP HP0b HO0b HB0b
  have hHeld2 : w1.cell? ⟨g0, 0, none⟩ = some (Value.pointer (some ⟨B, 0, none⟩)) := (show Row w1 g0 62 #[Value.pointer (some ⟨B, 0, none⟩)] from HB1.out _ (.head _)).cell_ (i := 0) rfl
  refine hK.out _ _ (.inr hHeld2) ?_
  clear hK K hHeld
  (try simp only [Act.put, k1, k2, k3])
  refine mpa 3 rfl (Value.pointer (some ⟨B, 0, none⟩)) (fun w => ?_) ?_
  · go_simp
  (try simp only [Act.put, k1, k2, k3])
  refine mpa 4 rfl (.pointer (some ⟨B, 4, none⟩)) (fun w => ?_) ?_
  · go_simp
  (try simp only [Act.put, k1, k2, k3])
  refine mpa 5 rfl (.pointer (some ⟨B, 6, none⟩)) (fun w => ?_) ?_
  · go_simp
  (try simp only [Act.put, k1, k2, k3])
  have c6 : w1.cell? ⟨B, 6, none⟩ = some (.int .u32 (r.a)) := HP1.out.row.cell_ (i := 6) rfl
  have f6 : w1.frozen? ⟨B, 6, none⟩ = false := HP1.out.row.frozen 6
  refine mpc 6 rfl (by kernel_rfl) (by rfl) (fun K hK => ?_)
  go_simp
  have HP2 := Lib.hid (HP1.out.setA (wordAt r.xs 0))
  have HO2 := Lib.hid (HO1.out.setCell (p := ⟨B, 6, none⟩) (.inr (.inl rfl)) (.int .u32 (wordAt r.xs 0)))
  have HB2 := Lib.hid (HB1.out.turn HP1.out ((Only.refl (TurnB B A) w1).setCell (p := ⟨B, 6, none⟩) (.inr (.inl rfl)) (.int .u32 (wordAt r.xs 0))) aside_1)
  refine hK.out _ _ (.inl (by kernel_rfl)) ?_
  clear hK K hHeld2 c6 f6 HP1 HO1 HB1
  generalize w1.setCell ⟨B, 6, none⟩ (.int .u32 (wordAt r.xs 0)) = w2 at *
  (try simp only [Act.put, k1, k2, k3])
  refine wpAnyP_done (by kernel_rfl) ?_ _
  have b0 : w2.cell? ⟨g0, 0, none⟩ = some (Value.pointer (some ⟨B, 0, none⟩)) := (show Row w2 g0 62 #[Value.pointer (some ⟨B, 0, none⟩)] from HB2.out _ (.head _)).cell_ (i := 0) rfl
  go_wp2_with fail
  clear b0
  refine (go_run B p A cp nv1 _ 3 _ HP2.out).mono ?_
  rintro e w4 ⟨rfl, hO, nv4, hP⟩
  have HO4 := Lib.hid (HO2.out.trans hO)
  have HP4 := Lib.hid hP
  clear hO hP
  go_wp2
  go_returns
  exact ⟨rfl, HO4.out, nv4, HP4.out⟩
theorem wcom_make (B : Nat) (p A : Option Addr) (cp : Nat) (nv : Value) (r : LS) (w : World) (h : RunP w B p A cp nv r) (hl : r.ns.length ≤ 900) : Calls Tryz.prog 73 #[Value.pointer (some ⟨B, 0, none⟩)] w (Clo 116 B p A cp (r.pLook 0 3) w) := by
  have e0 := (Only.refl Nil w).alloc (.cells #[Value.pointer (some ⟨B, 0, none⟩)] 62)
  have HC := Lib.hid (wcom_clo B p A cp nv r _ _ (h.keep e0) hl  (RowsL.cons (L := []) (fun _ h => by simp at h) (Row.new w 62 #[Value.pointer (some ⟨B, 0, none⟩)])))
  have HE := Lib.hid e0
  clear h hl e0
  go_enter Tryz.func73, Tryz.ntmps73
  go_wp2
  go_ret
  exact ⟨_, rfl, HE.out, HC.out⟩
-- coming and going
set_option maxHeartbeats 1000000 in
theorem wapp_clo (B : Nat) (p A : Option Addr) (cp : Nat) (nv : Value) (r : LS) (n : Int) (g0 g1 : Nat) (w : World) (h : RunP w B p A cp nv r) (hl : r.ns.length ≤ 900) (hbb : 0 ≤ r.b ∧ r.b < 4294967296) (hb : RowsL w [(g0, 62, #[Value.pointer (some ⟨B, 0, none⟩)]), (g1, 3, #[.int .i64 n])]) :
    Calls Tryz.prog 58 #[.pointer (some ⟨g0, 0, none⟩), .pointer (some ⟨g1, 0, none⟩)] w (Done B p A cp w (.tuple #[]) (r.pAppear n)) := by
  have HBB := Lib.hid hbb
  clear hbb
  have HP0 := Lib.hid h
  have HB0 := Lib.hid hb
  have HL := Lib.hid hl
  have HO0 := Lib.hid (Only.refl (TurnB B A) w)
  clear h hb hl
  have b0 : w.cell? ⟨g0, 0, none⟩ = some (Value.pointer (some ⟨B, 0, none⟩)) := (show Row w g0 62 #[Value.pointer (some ⟨B, 0, none⟩)] from HB0.out _ (.head _)).cell_ (i := 0) rfl
  go_enter Tryz.func58, Tryz.ntmps58
  go_upto_region 0 with (fail)
  refine wp_region_phase (n := 13) 12 (fun w => w.cell? ⟨g0, 0, none⟩ = some (Value.pointer (some ⟨B, 0, none⟩)) ∧ w.cell? ⟨B, 7, none⟩ = some (.int .u32 r.b)) rfl (by kernel_rfl) ⟨b0, HP0.out.row.cell_ (i := 7) rfl⟩ (fun hHeld => ?_)
  clear b0
  have HP0b := Lib.hid (HP0.out.keep (Only.refl Nil w).drew)
  have HB0b := Lib.hid (HB0.out.keep (Only.refl Nil w).drew)
  have HO0b := Lib.hid HO0.out.drew
  clear HP0 HB0 HO0
  generalize w.drew = w0 at *
  refine mpt 0 rfl (Value.pointer (some ⟨B, 0, none⟩)) (fun w hSw => ?_) ?_
  · (try dsimp only at hSw)
    go_split_ands
    go_simp
  (try simp only [Act.put, k1, k2, k3])
  refine mpt 1 rfl (Value.pointer (some ⟨B, 0, none⟩)) (fun w hSw => ?_) ?_
  · (try dsimp only at hSw)
    go_split_ands
    go_simp
  (try simp only [Act.put, k1, k2, k3])
  refine mpt 2 rfl (Value.pointer (some ⟨B, 0, none⟩)) (fun w hSw => ?_) ?_
  · (try dsimp only at hSw)
    go_split_ands
    go_simp
  (try simp only [Act.put, k1, k2, k3])
  refine mpa 3 rfl (Value.pointer (some ⟨B, 0, none⟩)) (fun w => ?_) ?_
  · go_simp
  (try simp only [Act.put, k1, k2, k3])
  refine mpa 4 rfl (.pointer (some ⟨B, 4, none⟩)) (fun w => ?_) ?_
  · go_simp
  (try simp only [Act.put, k1, k2, k3])
  refine mpa 5 rfl (.pointer (some ⟨B, 7, none⟩)) (fun w => ?_) ?_
  · go_simp
  (try simp only [Act.put, k1, k2, k3])
  refine mpt 6 rfl (.int .u32 r.b) (fun w hSw => ?_) ?_
  · (try dsimp only at hSw)
    go_split_ands
    go_simp
  (try simp only [Act.put, k1, k2, k3])
  refine mpc 7 rfl (by kernel_rfl) (by rfl) (fun K hK => ?_)
  go_simp
  refine (wpres_any r.b _ HBB.out).mono ?_
  rintro e w1 ⟨rfl, hd⟩
  have HP1 := Lib.hid (HP0b.out.keep hd.only)
  have HB1 := Lib.hid (HB0b.out.keep hd.only)
  have HO1 : Hid (Only (TurnB B A) w w1) := Lib.hid (HO0b.out.trans hd.only)
  clear hd HP0b HB0b HO0b
  have hHeld2 : w1.cell? ⟨g0, 0, none⟩ = some (Value.pointer (some ⟨B, 0, none⟩)) ∧ w1.cell? ⟨B, 7, none⟩ = some (.int .u32 r.b) := ⟨(show Row w1 g0 62 #[Value.pointer (some ⟨B, 0, none⟩)] from HB1.out _ (.head _)).cell_ (i := 0) rfl, HP1.out.row.cell_ (i := 7) rfl⟩
  refine hK.out _ _ (.inr hHeld2) ?_
  clear hK K hHeld
  (try simp only [Act.put, k1, k2, k3])
  refine mpc 8 rfl (by kernel_rfl) (by rfl) (fun K hK => ?_)
  go_simp
  refine (add_run B p A cp nv r 0 (presI r.b) _ HP1.out).mono ?_
  rintro e w2 ⟨rfl, hO, nv1, hP⟩
  have HO2 := Lib.hid (HO1.out.trans hO)
  have HB2 := Lib.hid (HB1.out.turn HP1.out hO aside_2)
  have HP2 := Lib.hid hP
  clear hO hP HP1 HO1 HB1
  have hHeld3 : w2.cell? ⟨g0, 0, none⟩ = some (Value.pointer (some ⟨B, 0, none⟩)) ∧ w2.cell? ⟨B, 7, none⟩ = some (.int .u32 r.b) := ⟨(show Row w2 g0 62 #[Value.pointer (some ⟨B, 0, none⟩)] from HB2.out _ (.head _)).cell_ (i := 0) rfl, HP2.out.row.cell_ (i := 7) rfl⟩
  refine hK.out _ _ (.inr hHeld3) ?_
  clear hK K hHeld2
  (try simp only [Act.put, k1, k2, k3])
  refine mpa 9 rfl (Value.pointer (some ⟨B, 0, none⟩)) (fun w => ?_) ?_
  · go_simp
  (try simp only [Act.put, k1, k2, k3])
  refine mpa 10 rfl (.pointer (some ⟨B, 4, none⟩)) (fun w => ?_) ?_
  · go_simp
  (try simp only [Act.put, k1, k2, k3])
  refine mpa 11 rfl (.pointer (some ⟨B, 6, none⟩)) (fun w => ?_) ?_
  · go_simp
  (try simp only [Act.put, k1, k2, k3])
  have c6 : w2.cell? ⟨B, 6, none⟩ = some (.int .u32 r.a) := HP2.out.row.cell_ (i := 6) rfl
  have f6 : w2.frozen? ⟨B, 6, none⟩ = false := HP2.out.row.frozen 6
  refine mpc 12 rfl (by kernel_rfl) (by rfl) (fun K hK => ?_)
  go_simp
  have HP3 := Lib.hid (HP2.out.setA (wordAt r.xs 0))
  have HO3 := Lib.hid (HO2.out.setCell (p := ⟨B, 6, none⟩) (.inr (.inl rfl)) (.int .u32 (wordAt r.xs 0)))
  have HB3 := Lib.hid (HB2.out.turn HP2.out ((Only.refl (TurnB B A) w2).setCell (p := ⟨B, 6, none⟩) (.inr (.inl rfl)) (.int .u32 (wordAt r.xs 0))) aside_2)
  refine hK.out _ _ (.inl (by kernel_rfl)) ?_
  clear hK K hHeld3 c6 f6 HP2 HO2 HB2
  generalize w2.setCell ⟨B, 6, none⟩ (.int .u32 (wordAt r.xs 0)) = w3 at *
  (try simp only [Act.put, k1, k2, k3])
  refine wpAnyP_done (by kernel_rfl) ?_ _
  have b0 : w3.cell? ⟨g0, 0, none⟩ = some (Value.pointer (some ⟨B, 0, none⟩)) := (show Row w3 g0 62 #[Value.pointer (some ⟨B, 0, none⟩)] from HB3.out _ (.head _)).cell_ (i := 0) rfl
  go_wp2_with fail
  clear b0
  refine (note_run B p A cp nv1 _ 3 0 _ HP3.out (show (r.doA 3 0 (presI r.b) 0).ns.length ≤ 1000 from Nat.le_trans HL.out (by decide))).mono ?_
  rintro e w5 ⟨rfl, hO, nv5, hP⟩
  have HO5 := Lib.hid (HO3.out.trans hO)
  have HB5 := Lib.hid (HB3.out.turn HP3.out hO aside_2)
  have HP5 := Lib.hid hP
  clear hO hP HP3 HO3 HB3
  have b0 : w5.cell? ⟨g0, 0, none⟩ = some (Value.pointer (some ⟨B, 0, none⟩)) := (show Row w5 g0 62 #[Value.pointer (some ⟨B, 0, none⟩)] from HB5.out _ (.head _)).cell_ (i := 0) rfl
  have b1 : w5.cell? ⟨g1, 0, none⟩ = some (.int .i64 n) := (show Row w5 g1 3 #[.int .i64 n] from HB5.out _ (.tail _ (.head _))).cell_ (i := 0) rfl
  go_wp2_with fail
  clear b0 b1
  refine (go_run B p A cp nv5 _ n _ HP5.out).mono ?_
  rintro e w4 ⟨rfl, hO, nv4, hP⟩
  have HO4 := Lib.hid (HO5.out.trans hO)
  have HP4 := Lib.hid hP
  clear hO hP
  go_wp2
  go_returns
  exact ⟨rfl, HO4.out, nv4, HP4.out⟩
theorem wapp_make (B : Nat) (p A : Option Addr) (cp : Nat) (nv : Value) (r : LS) (n : Int) (w : World) (h : RunP w B p A cp nv r) (hl : r.ns.length ≤ 900) (hbb : 0 ≤ r.b ∧ r.b < 4294967296) :
    Calls Tryz.prog 41 #[Value.pointer (some ⟨B, 0, none⟩), .int .i64 n] w (Clo 58 B p A cp (r.pAppear n) w) := by
  have e0 := ((Only.refl Nil w).alloc (.cells #[Value.pointer (some ⟨B, 0, none⟩)] 62)).alloc (.cells #[.int .i64 n] 3)
  have HC := Lib.hid (wapp_clo B p A cp nv r n w.heap.size (w.heap.size + 1) _ (h.keep e0) hl hbb (RowsL.cons (L := [_]) (RowsL.cons (L := []) (fun _ h => by simp at h) (Row.at (by simp))) ((Row.new w 62 #[Value.pointer (some ⟨B, 0, none⟩)]).alloc _)))
  have HE := Lib.hid e0
  clear h hl e0
  go_enter Tryz.func41, Tryz.ntmps41
  go_wp2
  go_ret
  exact ⟨_, rfl, HE.out, HC.out⟩
set_option maxHeartbeats 1000000 in
theorem wvan_clo (B : Nat) (p A : Option Addr) (cp : Nat) (nv : Value) (r : LS) (inn what : Int) (g0 g1 g2 : Nat) (w : World) (h : RunP w B p A cp nv r) (hl : r.ns.length ≤ 900) (hbb : 0 ≤ r.b ∧ r.b < 4294967296) (h1 : Row w g1 22 #[.int .u32 inn]) (hb : RowsL w [(g0, 62, #[Value.pointer (some ⟨B, 0, none⟩)]), (g2, 3, #[.int .i64 what])]) :
    Calls Tryz.prog 66 #[.pointer (some ⟨g0, 0, none⟩), .pointer (some ⟨g1, 0, none⟩), .pointer (some ⟨g2, 0, none⟩)] w (Done B p A cp w (.tuple #[]) (r.pVanish inn what)) := by
  have HBB := Lib.hid hbb
  have HW0 := Lib.hid h1
  clear hbb h1
  have HP0 := Lib.hid h
  have HB0 := Lib.hid hb
  have HL := Lib.hid hl
  have HO0 := Lib.hid (Only.refl (TurnB B A) w)
  clear h hb hl
  have b0 : w.cell? ⟨g0, 0, none⟩ = some (Value.pointer (some ⟨B, 0, none⟩)) := (show Row w g0 62 #[Value.pointer (some ⟨B, 0, none⟩)] from HB0.out _ (.head _)).cell_ (i := 0) rfl
  have hw : IntKind.u32.wrap (inn - presI r.b) = (inn - presI r.b) % 4294967296 := rfl
  go_enter Tryz.func66, Tryz.ntmps66
  go_upto_region 0 with (fail)
  refine wp_region_phase (n := 10) 9 (fun w => w.cell? ⟨g0, 0, none⟩ = some (Value.pointer (some ⟨B, 0, none⟩)) ∧ w.cell? ⟨g1, 0, none⟩ = some (.int .u32 inn) ∧ w.cell? ⟨B, 7, none⟩ = some (.int .u32 r.b)) rfl (by kernel_rfl) ⟨b0, HW0.out.cell_ (i := 0) rfl, HP0.out.row.cell_ (i := 7) rfl⟩ (fun hHeld => ?_)
  clear b0
  have HP0b := Lib.hid (HP0.out.keep (Only.refl Nil w).drew)
  have HB0b := Lib.hid (HB0.out.keep (Only.refl Nil w).drew)
  have HO0b := Lib.hid HO0.out.drew
  have HW0b := Lib.hid HW0.out.drew
  clear HP0 HB0 HO0 HW0
  generalize w.drew = w0 at *
  refine mpt 0 rfl (Value.pointer (some ⟨B, 0, none⟩)) (fun w hSw => ?_) ?_
  · (try dsimp only at hSw)
    go_split_ands
    go_simp
  (try simp only [Act.put, k1, k2, k3])
  refine mpt 1 rfl (.int .u32 inn) (fun w hSw => ?_) ?_
  · (try dsimp only at hSw)
    go_split_ands
    go_simp
  (try simp only [Act.put, k1, k2, k3])
  refine mpt 2 rfl (Value.pointer (some ⟨B, 0, none⟩)) (fun w hSw => ?_) ?_
  · (try dsimp only at hSw)
    go_split_ands
    go_simp
  (try simp only [Act.put, k1, k2, k3])
  refine mpa 3 rfl (Value.pointer (some ⟨B, 0, none⟩)) (fun w => ?_) ?_
  · go_simp
  (try simp only [Act.put, k1, k2, k3])
  refine mpa 4 rfl (.pointer (some ⟨B, 4, none⟩)) (fun w => ?_) ?_
  · go_simp
  (try simp only [Act.put, k1, k2, k3])
  refine mpa 5 rfl (.pointer (some ⟨B, 7, none⟩)) (fun w => ?_) ?_
  · go_simp
  (try simp only [Act.put, k1, k2, k3])
  refine mpt 6 rfl (.int .u32 r.b) (fun w hSw => ?_) ?_
  · (try dsimp only at hSw)
    go_split_ands
    go_simp
  (try simp only [Act.put, k1, k2, k3])
  refine mpc 7 rfl (by kernel_rfl) (by rfl) (fun K hK => ?_)
  go_simp
  refine (wpres_any r.b _ HBB.out).mono ?_
  rintro e w1 ⟨rfl, hd⟩
  have HP1 := Lib.hid (HP0b.out.keep hd.only)
  have HB1 := Lib.hid (HB0b.out.keep hd.only)
  have HO1 : Hid (Only (TurnB B A) w w1) := Lib.hid (HO0b.out.trans hd.only)
  have HW1 := Lib.hid (HW0b.out.only (hd.only (S := Nil)) id)
  clear hd HP0b HB0b HO0b HW0b
  have hHeld2 : w1.cell? ⟨g0, 0, none⟩ = some (Value.pointer (some ⟨B, 0, none⟩)) ∧ w1.cell? ⟨g1, 0, none⟩ = some (.int .u32 inn) ∧ w1.cell? ⟨B, 7, none⟩ = some (.int .u32 r.b) := ⟨(show Row w1 g0 62 #[Value.pointer (some ⟨B, 0, none⟩)] from HB1.out _ (.head _)).cell_ (i := 0) rfl, HW1.out.cell_ (i := 0) rfl, HP1.out.row.cell_ (i := 7) rfl⟩
  refine hK.out _ _ (.inr hHeld2) ?_
  clear hK K hHeld HW1
  (try simp only [Act.put, k1, k2, k3])
  refine mpa 8 rfl (.int .u32 ((inn - presI r.b) % 4294967296)) (fun w => ?_) ?_
  · go_simp
  (try simp only [Act.put, k1, k2, k3])
  refine mpc 9 rfl (by kernel_rfl) (by rfl) (fun K hK => ?_)
  go_simp
  refine (add_run B p A cp nv r 0 ((inn - presI r.b) % 4294967296) _ HP1.out).mono ?_
  rintro e w2 ⟨rfl, hO, nv1, hP⟩
  have HO2 := Lib.hid (HO1.out.trans hO)
  have HB2 := Lib.hid (HB1.out.turn HP1.out hO aside_2)
  have HP2 := Lib.hid hP
  clear hO hP HP1 HO1 HB1
  refine hK.out _ _ (.inl (by kernel_rfl)) ?_
  clear hK K hHeld2 hw
  (try simp only [Act.put, k1, k2, k3])
  refine wpAnyP_done (by kernel_rfl) ?_ _
  have b0 : w2.cell? ⟨g0, 0, none⟩ = some (Value.pointer (some ⟨B, 0, none⟩)) := (show Row w2 g0 62 #[Value.pointer (some ⟨B, 0, none⟩)] from HB2.out _ (.head _)).cell_ (i := 0) rfl
  have b2 : w2.cell? ⟨g2, 0, none⟩ = some (.int .i64 what) := (show Row w2 g2 3 #[.int .i64 what] from HB2.out _ (.tail _ (.head _))).cell_ (i := 0) rfl
  go_wp2_with fail
  clear b0 b2
  refine (note_run B p A cp nv1 _ what 0 _ HP2.out (show (r.doA 3 0 ((inn - presI r.b) % 4294967296) 0).ns.length ≤ 1000 from Nat.le_trans HL.out (by decide))).mono ?_
  rintro e w3 ⟨rfl, hO, nv3, hP⟩
  have HO3 := Lib.hid (HO2.out.trans hO)
  have HB3 := Lib.hid (HB2.out.turn HP2.out hO aside_2)
  have HP3 := Lib.hid hP
  clear hO hP HP2 HO2 HB2
  have b0 : w3.cell? ⟨g0, 0, none⟩ = some (Value.pointer (some ⟨B, 0, none⟩)) := (show Row w3 g0 62 #[Value.pointer (some ⟨B, 0, none⟩)] from HB3.out _ (.head _)).cell_ (i := 0) rfl
  go_wp2_with fail
  clear b0
  refine (wake_run B p A cp nv3 _ 0 _ HP3.out).mono ?_
  rintro e w5 ⟨rfl, hO, nv5, hP⟩
  have HO5 := Lib.hid (HO3.out.trans hO)
  have HB5 := Lib.hid (HB3.out.turn HP3.out hO aside_2)
  have HP5 := Lib.hid hP
  clear hO hP HP3 HO3 HB3
  have b0 : w5.cell? ⟨g0, 0, none⟩ = some (Value.pointer (some ⟨B, 0, none⟩)) := (show Row w5 g0 62 #[Value.pointer (some ⟨B, 0, none⟩)] from HB5.out _ (.head _)).cell_ (i := 0) rfl
  go_wp2_with fail
  clear b0
  refine (go_run B p A cp nv5 _ 2 _ HP5.out).mono ?_
  rintro e w4 ⟨rfl, hO, nv4, hP⟩
  have HO4 := Lib.hid (HO5.out.trans hO)
  have HP4 := Lib.hid hP
  clear hO hP
  go_wp2
  go_returns
  exact ⟨rfl, HO4.out, nv4, HP4.out⟩
theorem wvan_make (B : Nat) (p A : Option Addr) (cp : Nat) (nv : Value) (r : LS) (inn what : Int) (w : World) (h : RunP w B p A cp nv r) (hl : r.ns.length ≤ 900) (hbb : 0 ≤ r.b ∧ r.b < 4294967296) :
    Calls Tryz.prog 43 #[Value.pointer (some ⟨B, 0, none⟩), .int .u32 inn, .int .i64 what] w (Clo 66 B p A cp (r.pVanish inn what) w) := by
  have e0 := (((Only.refl Nil w).alloc (.cells #[Value.pointer (some ⟨B, 0, none⟩)] 62)).alloc (.cells #[.int .u32 inn] 22)).alloc (.cells #[.int .i64 what] 3)
  have HC := Lib.hid (wvan_clo B p A cp nv r inn what w.heap.size (w.heap.size + 1) (w.heap.size + 1 + 1) _ (h.keep e0) hl hbb ((Row.at (by simp)).alloc _) (RowsL.cons (L := [_]) (RowsL.cons (L := []) (fun _ h => by simp at h) (Row.at (by simp))) (((Row.new w 62 #[Value.pointer (some ⟨B, 0, none⟩)]).alloc _).alloc _)))
  have HE := Lib.hid e0
  clear h hl hbb e0
  go_enter Tryz.func43, Tryz.ntmps43
  go_wp2
  go_ret
  exact ⟨_, rfl, HE.out, HC.out⟩
set_option maxHeartbeats 1000000 in
theorem wcnt_clo (B : Nat) (p A : Option Addr) (cp : Nat) (nv : Value) (r : LS) (g0 : Nat) (w : World) (h : RunP w B p A cp nv r) (hl : r.ns.length ≤ 900) (hb : RowsL w [(g0, 62, #[Value.pointer (some ⟨B, 0, none⟩)])]) :
    Calls Tryz.prog 68 #[.pointer (some ⟨g0, 0, none⟩)] w (Done B p A cp w (.tuple #[]) r.wCount) := by
  have HP0 := Lib.hid h
  have HB0 := Lib.hid hb
  have HL := Lib.hid hl
  have HO0 := Lib.hid (Only.refl (TurnB B A) w)
  clear h hb hl
  have b0 : w.cell? ⟨g0, 0, none⟩ = some (Value.pointer (some ⟨B, 0, none⟩)) := (show Row w g0 62 #[Value.pointer (some ⟨B, 0, none⟩)] from HB0.out _ (.head _)).cell_ (i := 0) rfl
  have hw : IntKind.u32.wrap (r.b + 1) = (r.b + 1) % 4294967296 := rfl
  go_enter Tryz.func68, Tryz.ntmps68
  go_upto_region 0 with (fail)
  refine wp_region_phase (n := 8) 7 (fun w => w.cell? ⟨g0, 0, none⟩ = some (Value.pointer (some ⟨B, 0, none⟩)) ∧ w.cell? ⟨B, 7, none⟩ = some (.int .u32 r.b)) rfl (by kernel_rfl) ⟨b0, HP0.out.row.cell_ (i := 7) rfl⟩ (fun hHeld => ?_)
  clear b0
  have HP0b := Lib.hid (HP0.out.keep (Only.refl Nil w).drew)
  have HB0b := Lib.hid (HB0.out.keep (Only.refl Nil w).drew)
  have HO0b := Lib.hid HO0.out.drew
  clear HP0 HB0 HO0
  generalize w.drew = w0 at *
  refine mpt 0 rfl (Value.pointer (some ⟨B, 0, none⟩)) (fun w hSw => ?_) ?_
  · (try dsimp only at hSw)
    go_split_ands
    go_simp
  (try simp only [Act.put, k1, k2, k3])
  refine mpt 1 rfl (Value.pointer (some ⟨B, 0, none⟩)) (fun w hSw => ?_) ?_
  · (try dsimp only at hSw)
    go_split_ands
    go_simp
  (try simp only [Act.put, k1, k2, k3])
  refine mpa 2 rfl (Value.pointer (some ⟨B, 0, none⟩)) (fun w => ?_) ?_
  · go_simp
  (try simp only [Act.put, k1, k2, k3])
  refine mpa 3 rfl (.pointer (some ⟨B, 4, none⟩)) (fun w => ?_) ?_
  · go_simp
  (try simp only [Act.put, k1, k2, k3])
  refine mpa 4 rfl (.pointer (some ⟨B, 7, none⟩)) (fun w => ?_) ?_
  · go_simp
  (try simp only [Act.put, k1, k2, k3])
  refine mpt 5 rfl (.int .u32 r.b) (fun w hSw => ?_) ?_
  · (try dsimp only at hSw)
    go_split_ands
    go_simp
  (try simp only [Act.put, k1, k2, k3])
  refine mpa 6 rfl (.int .u32 ((r.b + 1) % 4294967296)) (fun w => ?_) ?_
  · go_simp
  (try simp only [Act.put, k1, k2, k3])
  refine mpc 7 rfl (by kernel_rfl) (by rfl) (fun K hK => ?_)
  go_simp
  refine (store_run B p A cp nv r 3 ((r.b + 1) % 4294967296) _ HP0b.out).mono ?_
  rintro e w2 ⟨rfl, hO, nv1, hP⟩
  have HO2 := Lib.hid (HO0b.out.trans hO)
  have HB2 := Lib.hid (HB0b.out.turn HP0b.out hO aside_1)
  have HP2 := Lib.hid hP
  clear hO hP HP0b HO0b HB0b
  refine hK.out _ _ (.inl (by kernel_rfl)) ?_
  clear hK K hHeld hw
  (try simp only [Act.put, k1, k2, k3])
  refine wpAnyP_done (by kernel_rfl) ?_ _
  have b0 : w2.cell? ⟨g0, 0, none⟩ = some (Value.pointer (some ⟨B, 0, none⟩)) := (show Row w2 g0 62 #[Value.pointer (some ⟨B, 0, none⟩)] from HB2.out _ (.head _)).cell_ (i := 0) rfl
  go_wp2_with fail
  clear b0
  refine (go_run B p A cp nv1 _ 3 _ HP2.out).mono ?_
  rintro e w4 ⟨rfl, hO, nv4, hP⟩
  have HO4 := Lib.hid (HO2.out.trans hO)
  have HP4 := Lib.hid hP
  clear hO hP
  go_wp2
  go_returns
  exact ⟨rfl, HO4.out, nv4, HP4.out⟩
theorem wcnt_make (B : Nat) (p A : Option Addr) (cp : Nat) (nv : Value) (r : LS) (w : World) (h : RunP w B p A cp nv r) (hl : r.ns.length ≤ 900) : Calls Tryz.prog 44 #[Value.pointer (some ⟨B, 0, none⟩)] w (Clo 68 B p A cp r.wCount w) := by
  have e0 := (Only.refl Nil w).alloc (.cells #[Value.pointer (some ⟨B, 0, none⟩)] 62)
  have HC := Lib.hid (wcnt_clo B p A cp nv r _ _ (h.keep e0) hl  (RowsL.cons (L := []) (fun _ h => by simp at h) (Row.new w 62 #[Value.pointer (some ⟨B, 0, none⟩)])))
  have HE := Lib.hid e0
  clear h hl e0
  go_enter Tryz.func44, Tryz.ntmps44
  go_wp2
  go_ret
  exact ⟨_, rfl, HE.out, HC.out⟩
theorem wstop_clo (B : Nat) (p A : Option Addr) (cp : Nat) (nv : Value) (r : LS) (g0 : Nat) (w : World) (h : RunP w B p A cp nv r) (hl : r.ns.length ≤ 900) (hb : RowsL w [(g0, 62, #[Value.pointer (some ⟨B, 0, none⟩)])]) :
    Calls Tryz.prog 121 #[.pointer (some ⟨g0, 0, none⟩)] w (Done B p A cp w (.tuple #[]) r.pStop) := by
  have HP0 := Lib.hid h
  have HB0 := Lib.hid hb
  have HL := Lib.hid hl
  have HO0 := Lib.hid (Only.refl (TurnB B A) w)
  clear h hb hl
  have b0 : w.cell? ⟨g0, 0, none⟩ = some (Value.pointer (some ⟨B, 0, none⟩)) := (show Row w g0 62 #[Value.pointer (some ⟨B, 0, none⟩)] from HB0.out _ (.head _)).cell_ (i := 0) rfl
  go_enter Tryz.func121, Tryz.ntmps121
  go_wp2_with fail
  clear b0
  refine (add_run B p A cp nv r 1 256 _ HP0.out).mono ?_
  rintro e w1 ⟨rfl, hO, nv1, hP⟩
  have HO1 := Lib.hid (HO0.out.trans hO)
  have HB1 := Lib.hid (HB0.out.turn HP0.out hO aside_1)
  have HP1 := Lib.hid hP
  clear hO hP HP0 HO0 HB0
  have b0 : w1.cell? ⟨g0, 0, none⟩ = some (Value.pointer (some ⟨B, 0, none⟩)) := (show Row w1 g0 62 #[Value.pointer (some ⟨B, 0, none⟩)] from HB1.out _ (.head _)).cell_ (i := 0) rfl
  go_wp2_with fail
  clear b0
  refine (end_run B p A cp nv1 _ _ true HP1.out).mono ?_
  rintro e w4 ⟨rfl, hO, nv4, hP⟩
  have HO4 := Lib.hid (HO1.out.trans hO)
  have HP4 := Lib.hid hP
  clear hO hP
  go_wp2
  go_returns
  exact ⟨rfl, HO4.out, nv4, HP4.out⟩
theorem wstop_make (B : Nat) (p A : Option Addr) (cp : Nat) (nv : Value) (r : LS) (w : World) (h : RunP w B p A cp nv r) (hl : r.ns.length ≤ 900) : Calls Tryz.prog 76 #[Value.pointer (some ⟨B, 0, none⟩)] w (Clo 121 B p A cp r.pStop w) := by
  have e0 := (Only.refl Nil w).alloc (.cells #[Value.pointer (some ⟨B, 0, none⟩)] 62)
  have HC := Lib.hid (wstop_clo B p A cp nv r _ _ (h.keep e0) hl  (RowsL.cons (L := []) (fun _ h => by simp at h) (Row.new w 62 #[Value.pointer (some ⟨B, 0, none⟩)])))
  have HE := Lib.hid e0
  clear h hl e0
  go_enter Tryz.func76, Tryz.ntmps76
  go_wp2
  go_ret
  exact ⟨_, rfl, HE.out, HC.out⟩
end Go.Proofs.YtocdbeonogfopaaGreat
namespace Go.Proofs.YtocdbeonogfopaaGreat
open Go.RowKit
theorem ahead_any (a b : Int) (w : World) :
    Calls Tryz.prog 118 #[.int .u32 a, .int .u32 b] w fun e w' => e = .returned (.int .i64 (aheadI a b)) ∧ w = w' := by
  go_enter Tryz.func118, Tryz.ntmps118
  go_wp2
  go_ret
  refine ⟨congrArg (fun x => Ending.returned (.int .i64 x)) ?_, rfl⟩
  simp only [wrap32, wrap64, aheadI]
  omega
end Go.Proofs.YtocdbeonogfopaaGreat
