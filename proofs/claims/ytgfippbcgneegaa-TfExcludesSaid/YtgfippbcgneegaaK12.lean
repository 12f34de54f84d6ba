import Derived.Test.YtgfippbcgneegaaK11
set_option linter.unusedVariables false
set_option linter.unusedSimpArgs false
namespace Go.Proofs.Ytgfippbcgneegaa
open Go.RowKit
def Clo (F : Nat) (B : Nat) (p A : Option Addr) (cp : Nat) (r' : LS) (w : World) (e : Ending) (w' : World) : Prop :=
  ∃ caps, e = .returned (.func (.func F) #[] caps) ∧ Only Nil w w' ∧ Calls Try.prog F caps w' (Done B p A cp w' (.tuple #[]) r')
theorem aside_1 {g0 B : Nat} : ∀ x ∈ [(g0, 62, #[Value.pointer (some ⟨B, 0, none⟩)])], Aside x.2.1 := by
  intro x hx
  simp only [List.mem_cons, List.not_mem_nil, or_false] at hx
  rcases hx with rfl
  exact aside_p
theorem aside_2 {g0 B g1 : Nat} {v : Value} : ∀ x ∈ [(g0, 62, #[Value.pointer (some ⟨B, 0, none⟩)]), (g1, 3, #[v])], Aside x.2.1 := by
  intro x hx
  simp only [List.mem_cons, List.not_mem_nil, or_false] at hx
  rcases hx with rfl | rfl
  · exact aside_p
  · exact aside_i
theorem aside_3 {g0 B g1 g2 : Nat} {v v' : Value} : ∀ x ∈ [(g0, 62, #[Value.pointer (some ⟨B, 0, none⟩)]), (g1, 3, #[v]), (g2, 3, #[v'])], Aside x.2.1 := by
  intro x hx
  simp only [List.mem_cons, List.not_mem_nil, or_false] at hx
  rcases hx with rfl | rfl | rfl
  · exact aside_p
  · exact aside_i
  · exact aside_i
theorem turn_clo (B : Nat) (p A : Option Addr) (cp : Nat) (nv : Value) (r : LS) (c what : Int) (g0 g1 g2 : Nat) (w : World) (h : RunP w B p A cp nv r) (hl : r.ns.length ≤ 900)
    (hb : RowsL w [(g0, 62, #[Value.pointer (some ⟨B, 0, none⟩)]), (g1, 3, #[.int .i64 c]), (g2, 3, #[.int .i64 what])]) :
    Calls Try.prog 110 #[.pointer (some ⟨g0, 0, none⟩), .pointer (some ⟨g1, 0, none⟩), .pointer (some ⟨g2, 0, none⟩)] w (Done B p A cp w (.tuple #[]) (r.turn c what)) := by
  have HP0 := Lib.hid h
  have HB0 := Lib.hid hb
  have HL := Lib.hid hl
  have HO0 := Lib.hid (Only.refl (TurnB B A) w)
  clear h hb hl
  have b0 : w.cell? ⟨g0, 0, none⟩ = some (Value.pointer (some ⟨B, 0, none⟩)) := (show Row w g0 62 #[Value.pointer (some ⟨B, 0, none⟩)] from HB0.out _ (.head _)).cell_ (i := 0) rfl
  have b1 : w.cell? ⟨g1, 0, none⟩ = some (.int .i64 c) := (show Row w g1 3 #[.int .i64 c] from HB0.out _ (.tail _ (.head _))).cell_ (i := 0) rfl
  go_enter Try.func110, Try.ntmps110
  go_wp2_with fail
  clear b0 b1
  refine (add_run B p A cp nv r c 1 _ HP0.out).mono ?_
  rintro e w1 ⟨rfl, hO, nv1, hP⟩
  have HO1 := Lib.hid (HO0.out.trans hO)
  have HB1 := Lib.hid (HB0.out.turn HP0.out hO aside_3)
  have HP1 := Lib.hid hP
  clear hO hP HP0 HO0 HB0
  have b0 : w1.cell? ⟨g0, 0, none⟩ = some (Value.pointer (some ⟨B, 0, none⟩)) := (show Row w1 g0 62 #[Value.pointer (some ⟨B, 0, none⟩)] from HB1.out _ (.head _)).cell_ (i := 0) rfl
  have b2 : w1.cell? ⟨g2, 0, none⟩ = some (.int .i64 what) := (show Row w1 g2 3 #[.int .i64 what] from HB1.out _ (.tail _ (.tail _ (.head _)))).cell_ (i := 0) rfl
  go_wp2_with fail
  clear b0 b2
  refine (note_run B p A cp nv1 _ what 0 _ HP1.out (show (r.doA 3 c 1 0).ns.length ≤ 1000 from Nat.le_trans HL.out (by decide))).mono ?_
  rintro e w2 ⟨rfl, hO, nv2, hP⟩
  have HO2 := Lib.hid (HO1.out.trans hO)
  have HB2 := Lib.hid (HB1.out.turn HP1.out hO aside_3)
  have HP2 := Lib.hid hP
  clear hO hP HP1 HO1 HB1
  have b0 : w2.cell? ⟨g0, 0, none⟩ = some (Value.pointer (some ⟨B, 0, none⟩)) := (show Row w2 g0 62 #[Value.pointer (some ⟨B, 0, none⟩)] from HB2.out _ (.head _)).cell_ (i := 0) rfl
  have b1 : w2.cell? ⟨g1, 0, none⟩ = some (.int .i64 c) := (show Row w2 g1 3 #[.int .i64 c] from HB2.out _ (.tail _ (.head _))).cell_ (i := 0) rfl
  go_wp2_with fail
  clear b0 b1
  refine (wake_run B p A cp nv2 _ c _ HP2.out).mono ?_
  rintro e w3 ⟨rfl, hO, nv3, hP⟩
  have HO3 := Lib.hid (HO2.out.trans hO)
  have HB3 := Lib.hid (HB2.out.turn HP2.out hO aside_3)
  have HP3 := Lib.hid hP
  clear hO hP HP2 HO2 HB2
  have b0 : w3.cell? ⟨g0, 0, none⟩ = some (Value.pointer (some ⟨B, 0, none⟩)) := (show Row w3 g0 62 #[Value.pointer (some ⟨B, 0, none⟩)] from HB3.out _ (.head _)).cell_ (i := 0) rfl
  go_wp2_with fail
  clear b0
  refine (end_run B p A cp nv3 _ _ true HP3.out).mono ?_
  rintro e w4 ⟨rfl, hO, nv4, hP⟩
  have HO4 := Lib.hid (HO3.out.trans hO)
  have HP4 := Lib.hid hP
  clear hO hP
  go_wp2
  go_returns
  exact ⟨rfl, HO4.out, nv4, HP4.out⟩
theorem turn_make (B : Nat) (p A : Option Addr) (cp : Nat) (nv : Value) (r : LS) (c what : Int) (w : World) (h : RunP w B p A cp nv r) (hl : r.ns.length ≤ 900) :
    Calls Try.prog 85 #[Value.pointer (some ⟨B, 0, none⟩), .int .i64 c, .int .i64 what] w (Clo 110 B p A cp (r.turn c what) w) := by
  have e0 := (((Only.refl Nil w).alloc (.cells #[Value.pointer (some ⟨B, 0, none⟩)] 62)).alloc (.cells #[.int .i64 c] 3)).alloc (.cells #[.int .i64 what] 3)
  have HC := Lib.hid (turn_clo B p A cp nv r c what w.heap.size (w.heap.size + 1) (w.heap.size + 1 + 1) _ (h.keep e0) hl (RowsL.cons (L := [_, _]) (RowsL.cons (L := [_]) (RowsL.cons (L := []) (fun _ h => by simp at h) (Row.at (by simp))) ((Row.at (by simp)).alloc _)) (((Row.new w 62 #[Value.pointer (some ⟨B, 0, none⟩)]).alloc _).alloc _)))
  have HE := Lib.hid e0
  clear h hl e0
  go_enter Try.func85, Try.ntmps85
  go_wp2
  go_ret
  exact ⟨_, rfl, HE.out, HC.out⟩
theorem leave_clo (B : Nat) (p A : Option Addr) (cp : Nat) (nv : Value) (r : LS) (g0 : Nat) (w : World) (h : RunP w B p A cp nv r) (hl : r.ns.length ≤ 900) (hb : RowsL w [(g0, 62, #[Value.pointer (some ⟨B, 0, none⟩)])]) :
    Calls Try.prog 112 #[.pointer (some ⟨g0, 0, none⟩)] w (Done B p A cp w (.tuple #[]) r.leave) := by
  have HP0 := Lib.hid h
  have HB0 := Lib.hid hb
  have HL := Lib.hid hl
  have HO0 := Lib.hid (Only.refl (TurnB B A) w)
  clear h hb hl
  have b0 : w.cell? ⟨g0, 0, none⟩ = some (Value.pointer (some ⟨B, 0, none⟩)) := (show Row w g0 62 #[Value.pointer (some ⟨B, 0, none⟩)] from HB0.out _ (.head _)).cell_ (i := 0) rfl
  go_enter Try.func112, Try.ntmps112
  go_wp2_with fail
  clear b0
  refine (add_run B p A cp nv r 1 1 _ HP0.out).mono ?_
  rintro e w1 ⟨rfl, hO, nv1, hP⟩
  have HO1 := Lib.hid (HO0.out.trans hO)
  have HB1 := Lib.hid (HB0.out.turn HP0.out hO aside_1)
  have HP1 := Lib.hid hP
  clear hO hP HP0 HO0 HB0
  have b0 : w1.cell? ⟨g0, 0, none⟩ = some (Value.pointer (some ⟨B, 0, none⟩)) := (show Row w1 g0 62 #[Value.pointer (some ⟨B, 0, none⟩)] from HB1.out _ (.head _)).cell_ (i := 0) rfl
  go_wp2_with fail
  clear b0
  refine (note_run B p A cp nv1 _ 7 0 _ HP1.out (show (r.doA 3 1 1 0).ns.length ≤ 1000 from Nat.le_trans HL.out (by decide))).mono ?_
  rintro e w2 ⟨rfl, hO, nv2, hP⟩
  have HO2 := Lib.hid (HO1.out.trans hO)
  have HB2 := Lib.hid (HB1.out.turn HP1.out hO aside_1)
  have HP2 := Lib.hid hP
  clear hO hP HP1 HO1 HB1
  have b0 : w2.cell? ⟨g0, 0, none⟩ = some (Value.pointer (some ⟨B, 0, none⟩)) := (show Row w2 g0 62 #[Value.pointer (some ⟨B, 0, none⟩)] from HB2.out _ (.head _)).cell_ (i := 0) rfl
  go_wp2_with fail
  clear b0
  refine (wake_run B p A cp nv2 _ 1 _ HP2.out).mono ?_
  rintro e w3 ⟨rfl, hO, nv3, hP⟩
  have HO3 := Lib.hid (HO2.out.trans hO)
  have HB3 := Lib.hid (HB2.out.turn HP2.out hO aside_1)
  have HP3 := Lib.hid hP
  clear hO hP HP2 HO2 HB2
  have b0 : w3.cell? ⟨g0, 0, none⟩ = some (Value.pointer (some ⟨B, 0, none⟩)) := (show Row w3 g0 62 #[Value.pointer (some ⟨B, 0, none⟩)] from HB3.out _ (.head _)).cell_ (i := 0) rfl
  go_wp2_with fail
  clear b0
  refine (go_run B p A cp nv3 _ 1 _ HP3.out).mono ?_
  rintro e w4 ⟨rfl, hO, nv4, hP⟩
  have HO4 := Lib.hid (HO3.out.trans hO)
  have HP4 := Lib.hid hP
  clear hO hP
  go_wp2
  go_returns
  exact ⟨rfl, HO4.out, nv4, HP4.out⟩
theorem leave_make (B : Nat) (p A : Option Addr) (cp : Nat) (nv : Value) (r : LS) (w : World) (h : RunP w B p A cp nv r) (hl : r.ns.length ≤ 900) :
    Calls Try.prog 87 #[Value.pointer (some ⟨B, 0, none⟩)] w (Clo 112 B p A cp r.leave w) := by
  have e0 := (Only.refl Nil w).alloc (.cells #[Value.pointer (some ⟨B, 0, none⟩)] 62)
  have HC := Lib.hid (leave_clo B p A cp nv r _ _ (h.keep e0) hl (RowsL.cons (L := []) (fun _ h => by simp at h) (Row.new w 62 #[Value.pointer (some ⟨B, 0, none⟩)])))
  have HE := Lib.hid e0
  clear h hl e0
  go_enter Try.func87, Try.ntmps87
  go_wp2
  go_ret
  exact ⟨_, rfl, HE.out, HC.out⟩
theorem back_clo (B : Nat) (p A : Option Addr) (cp : Nat) (nv : Value) (r : LS) (g0 : Nat) (w : World) (h : RunP w B p A cp nv r) (hl : r.ns.length ≤ 900) (hb : RowsL w [(g0, 62, #[Value.pointer (some ⟨B, 0, none⟩)])]) :
    Calls Try.prog 116 #[.pointer (some ⟨g0, 0, none⟩)] w (Done B p A cp w (.tuple #[]) r.giveBack) := by
  have HP0 := Lib.hid h
  have HB0 := Lib.hid hb
  have HL := Lib.hid hl
  have HO0 := Lib.hid (Only.refl (TurnB B A) w)
  clear h hb hl
  have b0 : w.cell? ⟨g0, 0, none⟩ = some (Value.pointer (some ⟨B, 0, none⟩)) := (show Row w g0 62 #[Value.pointer (some ⟨B, 0, none⟩)] from HB0.out _ (.head _)).cell_ (i := 0) rfl
  go_enter Try.func116, Try.ntmps116
  go_wp2_with fail
  clear b0
  refine (add_run B p A cp nv r 2 1 _ HP0.out).mono ?_
  rintro e w1 ⟨rfl, hO, nv1, hP⟩
  have HO1 := Lib.hid (HO0.out.trans hO)
  have HB1 := Lib.hid (HB0.out.turn HP0.out hO aside_1)
  have HP1 := Lib.hid hP
  clear hO hP HP0 HO0 HB0
  have b0 : w1.cell? ⟨g0, 0, none⟩ = some (Value.pointer (some ⟨B, 0, none⟩)) := (show Row w1 g0 62 #[Value.pointer (some ⟨B, 0, none⟩)] from HB1.out _ (.head _)).cell_ (i := 0) rfl
  go_wp2_with fail
  clear b0
  refine (end_run B p A cp nv1 _ _ true HP1.out).mono ?_
  rintro e w4 ⟨rfl, hO, nv4, hP⟩
  have HO4 := Lib.hid (HO1.out.trans hO)
  have HP4 := Lib.hid hP
  clear hO hP
  go_wp2
  go_returns
  exact ⟨rfl, HO4.out, nv4, HP4.out⟩
theorem back_make (B : Nat) (p A : Option Addr) (cp : Nat) (nv : Value) (r : LS) (w : World) (h : RunP w B p A cp nv r) (hl : r.ns.length ≤ 900) :
    Calls Try.prog 94 #[Value.pointer (some ⟨B, 0, none⟩)] w (Clo 116 B p A cp r.giveBack w) := by
  have e0 := (Only.refl Nil w).alloc (.cells #[Value.pointer (some ⟨B, 0, none⟩)] 62)
  have HC := Lib.hid (back_clo B p A cp nv r _ _ (h.keep e0) hl (RowsL.cons (L := []) (fun _ h => by simp at h) (Row.new w 62 #[Value.pointer (some ⟨B, 0, none⟩)])))
  have HE := Lib.hid e0
  clear h hl e0
  go_enter Try.func94, Try.ntmps94
  go_wp2
  go_ret
  exact ⟨_, rfl, HE.out, HC.out⟩
theorem then_1 (B : Nat) (p A : Option Addr) (cp : Nat) (nv : Value) (r : LS) (g0 : Nat) (w : World) (h : RunP w B p A cp nv r) (hl : r.ns.length ≤ 900) (hb : RowsL w [(g0, 62, #[Value.pointer (some ⟨B, 0, none⟩)])]) :
    Calls Try.prog 91 #[.pointer (some ⟨g0, 0, none⟩)] w (Done B p A cp w (.tuple #[]) ((r.note 2 1).go 3)) := by
  have HP0 := Lib.hid h
  have HB0 := Lib.hid hb
  have HL := Lib.hid hl
  have HO0 := Lib.hid (Only.refl (TurnB B A) w)
  clear h hb hl
  have b0 : w.cell? ⟨g0, 0, none⟩ = some (Value.pointer (some ⟨B, 0, none⟩)) := (show Row w g0 62 #[Value.pointer (some ⟨B, 0, none⟩)] from HB0.out _ (.head _)).cell_ (i := 0) rfl
  go_enter Try.func91, Try.ntmps91
  go_wp2_with fail
  clear b0
  refine (note_run B p A cp nv _ 2 1 _ HP0.out (Nat.le_trans HL.out (by decide))).mono ?_
  rintro e w1 ⟨rfl, hO, nv1, hP⟩
  have HO1 := Lib.hid (HO0.out.trans hO)
  have HB1 := Lib.hid (HB0.out.turn HP0.out hO aside_1)
  have HP1 := Lib.hid hP
  clear hO hP HP0 HO0 HB0
  have b0 : w1.cell? ⟨g0, 0, none⟩ = some (Value.pointer (some ⟨B, 0, none⟩)) := (show Row w1 g0 62 #[Value.pointer (some ⟨B, 0, none⟩)] from HB1.out _ (.head _)).cell_ (i := 0) rfl
  go_wp2_with fail
  clear b0
  refine (go_run B p A cp nv1 _ 3 _ HP1.out).mono ?_
  rintro e w4 ⟨rfl, hO, nv4, hP⟩
  have HO4 := Lib.hid (HO1.out.trans hO)
  have HP4 := Lib.hid hP
  clear hO hP
  go_wp2
  go_returns
  exact ⟨rfl, HO4.out, nv4, HP4.out⟩
theorem then_3 (B : Nat) (p A : Option Addr) (cp : Nat) (nv : Value) (r : LS) (g0 : Nat) (w : World) (h : RunP w B p A cp nv r) (hl : r.ns.length ≤ 900) (hb : RowsL w [(g0, 62, #[Value.pointer (some ⟨B, 0, none⟩)])]) :
    Calls Try.prog 93 #[.pointer (some ⟨g0, 0, none⟩)] w (Done B p A cp w (.tuple #[]) ((r.note 9 0).go 3)) := by
  have HP0 := Lib.hid h
  have HB0 := Lib.hid hb
  have HL := Lib.hid hl
  have HO0 := Lib.hid (Only.refl (TurnB B A) w)
  clear h hb hl
  have b0 : w.cell? ⟨g0, 0, none⟩ = some (Value.pointer (some ⟨B, 0, none⟩)) := (show Row w g0 62 #[Value.pointer (some ⟨B, 0, none⟩)] from HB0.out _ (.head _)).cell_ (i := 0) rfl
  go_enter Try.func93, Try.ntmps93
  go_wp2_with fail
  clear b0
  refine (note_run B p A cp nv _ 9 0 _ HP0.out (Nat.le_trans HL.out (by decide))).mono ?_
  rintro e w1 ⟨rfl, hO, nv1, hP⟩
  have HO1 := Lib.hid (HO0.out.trans hO)
  have HB1 := Lib.hid (HB0.out.turn HP0.out hO aside_1)
  have HP1 := Lib.hid hP
  clear hO hP HP0 HO0 HB0
  have b0 : w1.cell? ⟨g0, 0, none⟩ = some (Value.pointer (some ⟨B, 0, none⟩)) := (show Row w1 g0 62 #[Value.pointer (some ⟨B, 0, none⟩)] from HB1.out _ (.head _)).cell_ (i := 0) rfl
  go_wp2_with fail
  clear b0
  refine (go_run B p A cp nv1 _ 3 _ HP1.out).mono ?_
  rintro e w4 ⟨rfl, hO, nv4, hP⟩
  have HO4 := Lib.hid (HO1.out.trans hO)
  have HP4 := Lib.hid hP
  clear hO hP
  go_wp2
  go_returns
  exact ⟨rfl, HO4.out, nv4, HP4.out⟩
theorem then_2 (B : Nat) (p A : Option Addr) (cp : Nat) (nv : Value) (r : LS) (g0 : Nat) (w : World) (h : RunP w B p A cp nv r) (hl : r.ns.length ≤ 900) (hb : RowsL w [(g0, 62, #[Value.pointer (some ⟨B, 0, none⟩)])]) :
    Calls Try.prog 92 #[.pointer (some ⟨g0, 0, none⟩)] w (Done B p A cp w (.tuple #[]) (((r.note 2 2).note 4 0).fin true)) := by
  have HP0 := Lib.hid h
  have HB0 := Lib.hid hb
  have HL := Lib.hid hl
  have HO0 := Lib.hid (Only.refl (TurnB B A) w)
  clear h hb hl
  have b0 : w.cell? ⟨g0, 0, none⟩ = some (Value.pointer (some ⟨B, 0, none⟩)) := (show Row w g0 62 #[Value.pointer (some ⟨B, 0, none⟩)] from HB0.out _ (.head _)).cell_ (i := 0) rfl
  go_enter Try.func92, Try.ntmps92
  go_wp2_with fail
  clear b0
  refine (note_run B p A cp nv _ 2 2 _ HP0.out (Nat.le_trans HL.out (by decide))).mono ?_
  rintro e w1 ⟨rfl, hO, nv1, hP⟩
  have HO1 := Lib.hid (HO0.out.trans hO)
  have HB1 := Lib.hid (HB0.out.turn HP0.out hO aside_1)
  have HP1 := Lib.hid hP
  clear hO hP HP0 HO0 HB0
  have b0 : w1.cell? ⟨g0, 0, none⟩ = some (Value.pointer (some ⟨B, 0, none⟩)) := (show Row w1 g0 62 #[Value.pointer (some ⟨B, 0, none⟩)] from HB1.out _ (.head _)).cell_ (i := 0) rfl
  go_wp2_with fail
  clear b0
  refine (note_run B p A cp nv1 _ 4 0 _ HP1.out (by have := HL.out; simp only [LS.note, List.length_append, List.length_cons, List.length_nil]; omega)).mono ?_
  rintro e w2 ⟨rfl, hO, nv2, hP⟩
  have HO2 := Lib.hid (HO1.out.trans hO)
  have HB2 := Lib.hid (HB1.out.turn HP1.out hO aside_1)
  have HP2 := Lib.hid hP
  clear hO hP HP1 HO1 HB1
  have b0 : w2.cell? ⟨g0, 0, none⟩ = some (Value.pointer (some ⟨B, 0, none⟩)) := (show Row w2 g0 62 #[Value.pointer (some ⟨B, 0, none⟩)] from HB2.out _ (.head _)).cell_ (i := 0) rfl
  go_wp2_with fail
  clear b0
  refine (end_run B p A cp nv2 _ _ true HP2.out).mono ?_
  rintro e w4 ⟨rfl, hO, nv4, hP⟩
  have HO4 := Lib.hid (HO2.out.trans hO)
  have HP4 := Lib.hid hP
  clear hO hP
  go_wp2
  go_returns
  exact ⟨rfl, HO4.out, nv4, HP4.out⟩
set_option maxHeartbeats 1000000 in
theorem draw_clo (B : Nat) (p A : Option Addr) (cp : Nat) (nv : Value) (r : LS) (cl : Int) (g0 g1 : Nat) (w : World) (h : RunP w B p A cp nv r) (hl : r.ns.length ≤ 900)
    (hb : RowsL w [(g0, 62, #[Value.pointer (some ⟨B, 0, none⟩)]), (g1, 3, #[.int .i64 cl])]) :
    Calls Try.prog 107 #[.pointer (some ⟨g0, 0, none⟩), .pointer (some ⟨g1, 0, none⟩)] w (Done B p A cp w (.tuple #[]) (r.draw cl)) := by
  have HP0 := Lib.hid h
  have HB0 := Lib.hid hb
  have HL := Lib.hid hl
  have HO0 := Lib.hid (Only.refl (TurnB B A) w)
  clear h hb hl
  have b0 : w.cell? ⟨g0, 0, none⟩ = some (Value.pointer (some ⟨B, 0, none⟩)) := (show Row w g0 62 #[Value.pointer (some ⟨B, 0, none⟩)] from HB0.out _ (.head _)).cell_ (i := 0) rfl
  go_enter Try.func107, Try.ntmps107
  go_upto_region 0 with (fail)
  refine wp_region_phase (n := 7) 6 (fun w => w.cell? ⟨g0, 0, none⟩ = some (Value.pointer (some ⟨B, 0, none⟩))) rfl (by kernel_rfl) b0 (fun hHeld => ?_)
  clear b0
  have HP0b := Lib.hid (HP0.out.keep (Only.refl Nil w).drew)
  have HB0b := Lib.hid (HB0.out.keep (Only.refl Nil w).drew)
  have HO0b := Lib.hid HO0.out.drew
  clear HP0 HB0 HO0
  generalize w.drew = w0 at *
  refine mpt 0 rfl (Value.pointer (some ⟨B, 0, none⟩)) (fun w hSw => ?_) ?_
  · (try dsimp only at hSw)
    go_split_ands
    go_simp
  (try simp only [Act.put, k1, k2, k3])
  refine mpt 1 rfl (Value.pointer (some ⟨B, 0, none⟩)) (fun w hSw => ?_) ?_
  · (try dsimp only at hSw)
    go_split_ands
    go_simp
  (try simp only [Act.put, k1, k2, k3])
  refine mpc 2 rfl (by kernel_rfl) (by rfl) (fun K hK => ?_)
  go_simp
  refine (add_run B p A cp nv r 0 1 _ HP0b.out).mono ?_
  rintro e w1 ⟨rfl, hO, nv1, hP⟩
  have HO1 := Lib.hid (HO0b.out.trans hO)
  have HB1 := Lib.hid (HB0b.out.turn HP0b.out hO aside_2)
  have HP1 := Lib.hid hP
  clear hO hP HP0b HO0b HB0b
  have hHeld2 : w1.cell? ⟨g0, 0, none⟩ = some (Value.pointer (some ⟨B, 0, none⟩)) := (show Row w1 g0 62 #[Value.pointer (some ⟨B, 0, none⟩)] from HB1.out _ (.head _)).cell_ (i := 0) rfl
  refine hK.out _ _ (.inr hHeld2) ?_
  clear hK K hHeld
  (try simp only [Act.put, k1, k2, k3])
  refine mpa 3 rfl (Value.pointer (some ⟨B, 0, none⟩)) (fun w => ?_) ?_
  · go_simp
  (try simp only [Act.put, k1, k2, k3])
  refine mpa 4 rfl (.pointer (some ⟨B, 4, none⟩)) (fun w => ?_) ?_
  · go_simp
  (try simp only [Act.put, k1, k2, k3])
  refine mpa 5 rfl (.pointer (some ⟨B, 6, none⟩)) (fun w => ?_) ?_
  · go_simp
  (try simp only [Act.put, k1, k2, k3])
  have c6 : w1.cell? ⟨B, 6, none⟩ = some (.int .u32 (r.doA 3 0 1 0).a) := HP1.out.row.cell_ (i := 6) rfl
  have f6 : w1.frozen? ⟨B, 6, none⟩ = false := HP1.out.row.frozen 6
  refine mpc 6 rfl (by kernel_rfl) (by rfl) (fun K hK => ?_)
  go_simp
  have HP2 := Lib.hid (HP1.out.setA (wordAt r.xs 0))
  have HO2 := Lib.hid (HO1.out.setCell (p := ⟨B, 6, none⟩) (.inr (.inl rfl)) (.int .u32 (wordAt r.xs 0)))
  have HB2 := Lib.hid (HB1.out.turn HP1.out ((Only.refl (TurnB B A) w1).setCell (p := ⟨B, 6, none⟩) (.inr (.inl rfl)) (.int .u32 (wordAt r.xs 0))) aside_2)
  refine hK.out _ _ (.inl (by kernel_rfl)) ?_
  clear hK K hHeld2 c6 f6 HP1 HO1 HB1
  generalize w1.setCell ⟨B, 6, none⟩ (.int .u32 (wordAt r.xs 0)) = w2 at *
  (try simp only [Act.put, k1, k2, k3])
  refine wpAnyP_done (by kernel_rfl) ?_ _
  have b0 : w2.cell? ⟨g0, 0, none⟩ = some (Value.pointer (some ⟨B, 0, none⟩)) := (show Row w2 g0 62 #[Value.pointer (some ⟨B, 0, none⟩)] from HB2.out _ (.head _)).cell_ (i := 0) rfl
  have b1 : w2.cell? ⟨g1, 0, none⟩ = some (.int .i64 cl) := (show Row w2 g1 3 #[.int .i64 cl] from HB2.out _ (.tail _ (.head _))).cell_ (i := 0) rfl
  go_wp2_with fail
  clear b0 b1
  refine (note_run B p A cp nv1 _ 2 cl _ HP2.out (show (r.doA 3 0 1 0).ns.length ≤ 1000 from Nat.le_trans HL.out (by decide))).mono ?_
  rintro e w3 ⟨rfl, hO, nv3, hP⟩
  have HO3 := Lib.hid (HO2.out.trans hO)
  have HB3 := Lib.hid (HB2.out.turn HP2.out hO aside_2)
  have HP3 := Lib.hid hP
  clear hO hP HP2 HO2 HB2
  have b0 : w3.cell? ⟨g0, 0, none⟩ = some (Value.pointer (some ⟨B, 0, none⟩)) := (show Row w3 g0 62 #[Value.pointer (some ⟨B, 0, none⟩)] from HB3.out _ (.head _)).cell_ (i := 0) rfl
  go_wp2_with fail
  clear b0
  refine (go_run B p A cp nv3 _ 1 _ HP3.out).mono ?_
  rintro e w4 ⟨rfl, hO, nv4, hP⟩
  have HO4 := Lib.hid (HO3.out.trans hO)
  have HP4 := Lib.hid hP
  clear hO hP
  go_wp2
  go_returns
  exact ⟨rfl, HO4.out, nv4, HP4.out⟩
theorem draw_make (B : Nat) (p A : Option Addr) (cp : Nat) (nv : Value) (r : LS) (cl : Int) (w : World) (h : RunP w B p A cp nv r) (hl : r.ns.length ≤ 900) :
    Calls Try.prog 83 #[Value.pointer (some ⟨B, 0, none⟩), .int .i64 cl] w (Clo 107 B p A cp (r.draw cl) w) := by
  have e0 := ((Only.refl Nil w).alloc (.cells #[Value.pointer (some ⟨B, 0, none⟩)] 62)).alloc (.cells #[.int .i64 cl] 3)
  have HC := Lib.hid (draw_clo B p A cp nv r cl w.heap.size (w.heap.size + 1) _ (h.keep e0) hl (RowsL.cons (L := [_]) (RowsL.cons (L := []) (fun _ h => by simp at h) (Row.at (by simp))) ((Row.new w 62 #[Value.pointer (some ⟨B, 0, none⟩)]).alloc _)))
  have HE := Lib.hid e0
  clear h hl e0
  go_enter Try.func83, Try.ntmps83
  go_wp2
  go_ret
  exact ⟨_, rfl, HE.out, HC.out⟩
set_option maxHeartbeats 1000000 in
theorem look_clo (B : Nat) (p A : Option Addr) (cp : Nat) (nv : Value) (r : LS) (g0 : Nat) (w : World) (h : RunP w B p A cp nv r) (hl : r.ns.length ≤ 900) (hb : RowsL w [(g0, 62, #[Value.pointer (some ⟨B, 0, none⟩)])]) :
    Calls Try.prog 113 #[.pointer (some ⟨g0, 0, none⟩)] w (Done B p A cp w (.tuple #[]) r.look) := by
  have HP0 := Lib.hid h
  have HB0 := Lib.hid hb
  have HL := Lib.hid hl
  have HO0 := Lib.hid (Only.refl (TurnB B A) w)
  clear h hb hl
  have b0 : w.cell? ⟨g0, 0, none⟩ = some (Value.pointer (some ⟨B, 0, none⟩)) := (show Row w g0 62 #[Value.pointer (some ⟨B, 0, none⟩)] from HB0.out _ (.head _)).cell_ (i := 0) rfl
  go_enter Try.func113, Try.ntmps113
  go_upto_region 0 with (fail)
  refine wp_region_phase (n := 7) 6 (fun w => w.cell? ⟨g0, 0, none⟩ = some (Value.pointer (some ⟨B, 0, none⟩))) rfl (by kernel_rfl) b0 (fun hHeld => ?_)
  clear b0
  have HP0b := Lib.hid (HP0.out.keep (Only.refl Nil w).drew)
  have HB0b := Lib.hid (HB0.out.keep (Only.refl Nil w).drew)
  have HO0b := Lib.hid HO0.out.drew
  clear HP0 HB0 HO0
  generalize w.drew = w0 at *
  refine mpt 0 rfl (Value.pointer (some ⟨B, 0, none⟩)) (fun w hSw => ?_) ?_
  · (try dsimp only at hSw)
    go_split_ands
    go_simp
  (try simp only [Act.put, k1, k2, k3])
  refine mpt 1 rfl (Value.pointer (some ⟨B, 0, none⟩)) (fun w hSw => ?_) ?_
  · (try dsimp only at hSw)
    go_split_ands
    go_simp
  (try simp only [Act.put, k1, k2, k3])
  refine mpc 2 rfl (by kernel_rfl) (by rfl) (fun K hK => ?_)
  go_simp
  refine (load_run B p A cp nv r 0 _ HP0b.out).mono ?_
  rintro e w1 ⟨rfl, hO, nv1, hP⟩
  have HO1 := Lib.hid (HO0b.out.trans hO)
  have HB1 := Lib.hid (HB0b.out.turn HP0b.out hO aside_1)
  have HP1 := Lib.hid hP
  clear hO hP HP0b HO0b HB0b
  have hHeld2 : w1.cell? ⟨g0, 0, none⟩ = some (Value.pointer (some ⟨B, 0, none⟩)) := (show Row w1 g0 62 #[Value.pointer (some ⟨B, 0, none⟩)] from HB1.out _ (.head _)).cell_ (i := 0) rfl
  refine hK.out _ _ (.inr hHeld2) ?_
  clear hK K hHeld
  (try simp only [Act.put, k1, k2, k3])
  refine mpa 3 rfl (Value.pointer (some ⟨B, 0, none⟩)) (fun w => ?_) ?_
  · go_simp
  (try simp only [Act.put, k1, k2, k3])
  refine mpa 4 rfl (.pointer (some ⟨B, 4, none⟩)) (fun w => ?_) ?_
  · go_simp
  (try simp only [Act.put, k1, k2, k3])
  refine mpa 5 rfl (.pointer (some ⟨B, 6, none⟩)) (fun w => ?_) ?_
  · go_simp
  (try simp only [Act.put, k1, k2, k3])
  have c6 : w1.cell? ⟨B, 6, none⟩ = some (.int .u32 (r.doA 1 0 0 0).a) := HP1.out.row.cell_ (i := 6) rfl
  have f6 : w1.frozen? ⟨B, 6, none⟩ = false := HP1.out.row.frozen 6
  refine mpc 6 rfl (by kernel_rfl) (by rfl) (fun K hK => ?_)
  go_simp
  have HP2 := Lib.hid (HP1.out.setA (wordAt r.xs 0))
  have HO2 := Lib.hid (HO1.out.setCell (p := ⟨B, 6, none⟩) (.inr (.inl rfl)) (.int .u32 (wordAt r.xs 0)))
  have HB2 := Lib.hid (HB1.out.turn HP1.out ((Only.refl (TurnB B A) w1).setCell (p := ⟨B, 6, none⟩) (.inr (.inl rfl)) (.int .u32 (wordAt r.xs 0))) aside_1)
  refine hK.out _ _ (.inl (by kernel_rfl)) ?_
  clear hK K hHeld2 c6 f6 HP1 HO1 HB1
  generalize w1.setCell ⟨B, 6, none⟩ (.int .u32 (wordAt r.xs 0)) = w2 at *
  (try simp only [Act.put, k1, k2, k3])
  refine wpAnyP_done (by kernel_rfl) ?_ _
  have b0 : w2.cell? ⟨g0, 0, none⟩ = some (Value.pointer (some ⟨B, 0, none⟩)) := (show Row w2 g0 62 #[Value.pointer (some ⟨B, 0, none⟩)] from HB2.out _ (.head _)).cell_ (i := 0) rfl
  go_wp2_with fail
  clear b0
  refine (go_run B p A cp nv1 _ 1 _ HP2.out).mono ?_
  rintro e w4 ⟨rfl, hO, nv4, hP⟩
  have HO4 := Lib.hid (HO2.out.trans hO)
  have HP4 := Lib.hid hP
  clear hO hP
  go_wp2
  go_returns
  exact ⟨rfl, HO4.out, nv4, HP4.out⟩
theorem look_make (B : Nat) (p A : Option Addr) (cp : Nat) (nv : Value) (r : LS) (w : World) (h : RunP w B p A cp nv r) (hl : r.ns.length ≤ 900) :
    Calls Try.prog 88 #[Value.pointer (some ⟨B, 0, none⟩)] w (Clo 113 B p A cp r.look w) := by
  have e0 := (Only.refl Nil w).alloc (.cells #[Value.pointer (some ⟨B, 0, none⟩)] 62)
  have HC := Lib.hid (look_clo B p A cp nv r _ _ (h.keep e0) hl (RowsL.cons (L := []) (fun _ h => by simp at h) (Row.new w 62 #[Value.pointer (some ⟨B, 0, none⟩)])))
  have HE := Lib.hid e0
  clear h hl e0
  go_enter Try.func88, Try.ntmps88
  go_wp2
  go_ret
  exact ⟨_, rfl, HE.out, HC.out⟩
end Go.Proofs.Ytgfippbcgneegaa
