import Derived.Test.YtkkldcggbekleaaGreatS23
import Derived.Test.YtkkldcggbekleaaGreatS24
import Derived.Test.YtkkldcggbekleaaGreatS20
import Derived.Test.YtkkldcggbekleaaGreatS29
import Derived.Test.YtkkldcggbekleaaGreatS30
set_option linter.unusedVariables false
set_option linter.unusedSimpArgs false
namespace Go.Proofs.YtkkldcggbekleaaGreat
open Go.RowKit
def Clo (F : Nat) (B : Nat) (p A : Option Addr) (cp : Nat) (r' : LS) (w : World) (e : Ending) (w' : World) : Prop :=
  ∃ caps, e = .returned (.func (.func F) #[] caps) ∧ Only Nil w w' ∧ Calls Tryz.prog F caps w' (Done B p A cp w' (.tuple #[]) r')
theorem aside_b : Aside 4 := ⟨by decide, by decide, by decide⟩
theorem aside_s : Aside 75 := ⟨by decide, by decide, by decide⟩
theorem aside_1 {g0 B : Nat} : ∀ x ∈ [(g0, 35, #[Value.pointer (some ⟨B, 0, none⟩)])], Aside x.2.1 := by
  intro x hx
  simp only [List.mem_cons, List.not_mem_nil, or_false] at hx
  rcases hx with rfl
  exact aside_p
theorem aside_2 {g0 B g1 : Nat} {v : Value} : ∀ x ∈ [(g0, 35, #[Value.pointer (some ⟨B, 0, none⟩)]), (g1, 3, #[v])], Aside x.2.1 := by
  intro x hx
  simp only [List.mem_cons, List.not_mem_nil, or_false] at hx
  rcases hx with rfl | rfl
  · exact aside_p
  · exact aside_i
theorem aside_3 {g0 B g1 g2 : Nat} {v v' : Value} : ∀ x ∈ [(g0, 35, #[Value.pointer (some ⟨B, 0, none⟩)]), (g1, 3, #[v]), (g2, 3, #[v'])], Aside x.2.1 := by
  intro x hx
  simp only [List.mem_cons, List.not_mem_nil, or_false] at hx
  rcases hx with rfl | rfl | rfl
  · exact aside_p
  · exact aside_i
  · exact aside_i
theorem aside_4 {g0 B g1 g2 g3 : Nat} {v v' v'' : Value} : ∀ x ∈ [(g0, 35, #[Value.pointer (some ⟨B, 0, none⟩)]), (g1, 3, #[v]), (g2, 75, #[v']), (g3, 4, #[v''])], Aside x.2.1 := by
  intro x hx
  simp only [List.mem_cons, List.not_mem_nil, or_false] at hx
  rcases hx with rfl | rfl | rfl | rfl
  · exact aside_p
  · exact aside_i
  · exact aside_s
  · exact aside_b
theorem qEnter_of {r r' : LS} {cl : Int} {d : Bool} (h : r.mxEnter 0 cl = (r', d)) : r.qEnter cl = if d then r'.go 5 else r' := by unfold LS.qEnter; rw [h]
theorem qGive_of {r r' : LS} {a : Int} {ok : Bool} {l : List Int} {d : Bool} (h : r.mxGive 0 a l = (r', d)) : r.qGive a ok l = if d then r'.fin ok else r' := by unfold LS.qGive; rw [h]
def LS.qTryG (r : LS) (cl n : Int) : LS :=
  if (r.mxTry 0 0).2.2 then ((r.mxTry 0 0).1.note 2 cl).go n else if (r.mxTry 0 0).2.1 then ((r.mxTry 0 0).1.note 5 0).fin false else (r.mxTry 0 0).1
theorem qTryG_of {r r' : LS} {cl n : Int} {d i : Bool} (h : r.mxTry 0 0 = (r', d, i)) : r.qTryG cl n = if i then (r'.note 2 cl).go n else if d then (r'.note 5 0).fin false else r' := by unfold LS.qTryG; rw [h]
theorem try_done {r : LS} (h : (r.mxTry 0 0).2.1 = false) : (r.mxTry 0 0).2.2 = false := by
  unfold LS.mxTry at h ⊢
  by_cases l0 : r.line = 0
  · rw [if_pos l0]
  by_cases l1 : r.line = 0 + 1
  · rw [if_neg l0, if_pos l1] at h; cases h
  · rw [if_neg l0, if_neg l1]
theorem try_ns (r : LS) : (r.mxTry 0 0).1.ns = r.ns := by unfold LS.mxTry; (repeat' split) <;> rfl
theorem qTry_5 {r : LS} (h : r.op = 5) : r.qTry = r.qTryG 1 5 := by
  unfold LS.qTry LS.qTryG
  have hd := try_done (r := r)
  rw [if_pos h]
  generalize r.mxTry 0 0 = t at hd ⊢
  obtain ⟨r', d, i⟩ := t
  cases d
  · have : i = false := hd rfl
    subst this; rfl
  · cases i <;> rfl
theorem qTry_6 {r : LS} (h : r.op ≠ 5) : r.qTry = r.qTryG 2 2 := by
  unfold LS.qTry LS.qTryG
  have hd := try_done (r := r)
  rw [if_neg h]
  generalize r.mxTry 0 0 = t at hd ⊢
  obtain ⟨r', d, i⟩ := t
  cases d
  · have : i = false := hd rfl
    subst this; rfl
  · cases i <;> rfl
-- entering
theorem enter_clo (B : Nat) (p A : Option Addr) (cp : Nat) (nv : Value) (r : LS) (cl : Int) (g0 g1 : Nat) (w : World) (h : RunP w B p A cp nv r) (hl : r.ns.length ≤ 900) (hx : Words r.xs) (ha : 0 ≤ r.a ∧ r.a < 4294967296) (hb : RowsL w [(g0, 35, #[Value.pointer (some ⟨B, 0, none⟩)]), (g1, 3, #[.int .i64 cl])]) :
    Calls Tryz.prog 72 #[.pointer (some ⟨g0, 0, none⟩), .pointer (some ⟨g1, 0, none⟩)] w (Done B p A cp w (.tuple #[]) (r.qEnter cl)) := by
  have hc := enter_run B p A cp nv r 0 cl w h hl hx ha
  obtain ⟨r', d, hd⟩ : ∃ r' d, r.mxEnter 0 cl = (r', d) := ⟨_, _, rfl⟩
  rw [qEnter_of hd]
  rw [hd] at hc
  have HC := Lib.hid hc
  clear hc hd hx ha
  have HP0 := Lib.hid h
  have HB0 := Lib.hid hb
  have HL := Lib.hid hl
  have HO0 := Lib.hid (Only.refl (TurnB B A) w)
  clear h hb hl
  have b0 : w.cell? ⟨g0, 0, none⟩ = some (Value.pointer (some ⟨B, 0, none⟩)) := (show Row w g0 35 #[Value.pointer (some ⟨B, 0, none⟩)] from HB0.out _ (.head _)).cell_ (i := 0) rfl
  have b1 : w.cell? ⟨g1, 0, none⟩ = some (.int .i64 cl) := (show Row w g1 3 #[.int .i64 cl] from HB0.out _ (.tail _ (.head _))).cell_ (i := 0) rfl
  cases d
  · rw [if_neg Bool.false_ne_true]
    go_enter Tryz.func72, Tryz.ntmps72
    go_wp2_with fail
    clear b0 b1
    refine HC.out.mono ?_
    rintro e w1 ⟨rfl, hO, nv1, hP⟩
    have HO1 := Lib.hid (HO0.out.trans hO)
    have HB1 := Lib.hid (HB0.out.turn HP0.out hO aside_2)
    have HP1 := Lib.hid hP
    clear hO hP HP0 HO0 HB0
    go_wp2
    go_returns
    exact ⟨rfl, HO1.out, nv1, HP1.out⟩
  · rw [if_pos rfl]
    go_enter Tryz.func72, Tryz.ntmps72
    go_wp2_with fail
    clear b0 b1
    refine HC.out.mono ?_
    rintro e w1 ⟨rfl, hO, nv1, hP⟩
    have HO1 := Lib.hid (HO0.out.trans hO)
    have HB1 := Lib.hid (HB0.out.turn HP0.out hO aside_2)
    have HP1 := Lib.hid hP
    clear hO hP HP0 HO0 HB0
    have b0 : w1.cell? ⟨g0, 0, none⟩ = some (Value.pointer (some ⟨B, 0, none⟩)) := (show Row w1 g0 35 #[Value.pointer (some ⟨B, 0, none⟩)] from HB1.out _ (.head _)).cell_ (i := 0) rfl
    go_wp2_with fail
    clear b0
    refine (go_run B p A cp nv1 _ 5 _ HP1.out).mono ?_
    rintro e w4 ⟨rfl, hO, nv4, hP⟩
    have HO4 := Lib.hid (HO1.out.trans hO)
    have HP4 := Lib.hid hP
    clear hO hP
    go_wp2
    go_returns
    exact ⟨rfl, HO4.out, nv4, HP4.out⟩
theorem enter_make (B : Nat) (p A : Option Addr) (cp : Nat) (nv : Value) (r : LS) (cl : Int) (w : World) (h : RunP w B p A cp nv r) (hl : r.ns.length ≤ 900) (hx : Words r.xs) (ha : 0 ≤ r.a ∧ r.a < 4294967296) :
    Calls Tryz.prog 40 #[Value.pointer (some ⟨B, 0, none⟩), .int .i64 cl] w (Clo 72 B p A cp (r.qEnter cl) w) := by
  have e0 := ((Only.refl Nil w).alloc (.cells #[Value.pointer (some ⟨B, 0, none⟩)] 35)).alloc (.cells #[.int .i64 cl] 3)
  have HC := Lib.hid (enter_clo B p A cp nv r cl w.heap.size (w.heap.size + 1) _ (h.keep e0) hl hx ha (RowsL.cons (L := [_]) (RowsL.cons (L := []) (fun _ h => by simp at h) (Row.at (by simp))) ((Row.new w 35 #[Value.pointer (some ⟨B, 0, none⟩)]).alloc _)))
  have HE := Lib.hid e0
  clear h hl hx ha e0
  go_enter Tryz.func40, Tryz.ntmps40
  go_wp2
  go_ret
  exact ⟨_, rfl, HE.out, HC.out⟩
-- giving on
theorem whats_1 {B : Nat} {p A : Option Addr} {cp : Nat} {nv : Value} {r : LS} {w : World} (h : RunP w B p A cp nv r) (x : Int) : Whats B A (w.alloc (.cells #[.int .i64 x] 3)) (.slice (some ⟨w.heap.size, 0, none⟩) 1 1) [x] := by
  have h8 := h.keep ((Only.refl Nil w).alloc (.cells #[.int .i64 x] 3))
  have hr := Row.new w 3 #[.int .i64 x]
  exact ⟨_, _, rfl, fun w' ho i y hi => ⟨w.heap.size, 0, rfl, by
    match i, hi with
    | 0, hi => cases hi; exact (h8.aside hr ho aside_i).cell_ (i := 0) rfl
    | i + 1, hi => simp at hi⟩⟩
theorem whats_2 {B : Nat} {p A : Option Addr} {cp : Nat} {nv : Value} {r : LS} {w : World} (h : RunP w B p A cp nv r) (x z : Int) : Whats B A (w.alloc (.cells #[.int .i64 x, .int .i64 z] 3)) (.slice (some ⟨w.heap.size, 0, none⟩) 2 2) [x, z] := by
  have h8 := h.keep ((Only.refl Nil w).alloc (.cells #[.int .i64 x, .int .i64 z] 3))
  have hr := Row.new w 3 #[.int .i64 x, .int .i64 z]
  exact ⟨_, _, rfl, fun w' ho i y hi => ⟨w.heap.size, 0, rfl, by
    match i, hi with
    | 0, hi => cases hi; exact (h8.aside hr ho aside_i).cell_ (i := 0) rfl
    | 1, hi => cases hi; exact (h8.aside hr ho aside_i).cell_ (i := 1) rfl
    | i + 2, hi => simp at hi⟩⟩
theorem give_clo (B : Nat) (p A : Option Addr) (cp : Nat) (nv : Value) (r : LS) (a : Int) (ok : Bool) (V : Value) (l : List Int) (g0 g1 g2 g3 : Nat) (w : World) (h : RunP w B p A cp nv r) (hl : r.ns.length ≤ 900) (hx : Words r.xs) (ha : 0 ≤ r.a ∧ r.a < 4294967296) (hw : Whats B A w V l) (hm : l.length ≤ 90) (hr0 : -1000 ≤ a) (hr1 : a ≤ 1000)
    (hb : RowsL w [(g0, 35, #[Value.pointer (some ⟨B, 0, none⟩)]), (g1, 3, #[.int .i64 a]), (g2, 75, #[V]), (g3, 4, #[.bool ok])]) :
    Calls Tryz.prog 76 #[.pointer (some ⟨g0, 0, none⟩), .pointer (some ⟨g1, 0, none⟩), .pointer (some ⟨g2, 0, none⟩), .pointer (some ⟨g3, 0, none⟩)] w (Done B p A cp w (.tuple #[]) (r.qGive a ok l)) := by
  have hc := give_run B p A cp nv r 0 a w h hl hx ha V l hw hm hr0 hr1
  obtain ⟨r', d, hd⟩ : ∃ r' d, r.mxGive 0 a l = (r', d) := ⟨_, _, rfl⟩
  rw [qGive_of hd]
  rw [hd] at hc
  have HC := Lib.hid hc
  obtain ⟨VA, vc, rfl, _⟩ := hw
  clear hc hd hx ha hm hr0 hr1
  have HP0 := Lib.hid h
  have HB0 := Lib.hid hb
  have HL := Lib.hid hl
  have HO0 := Lib.hid (Only.refl (TurnB B A) w)
  clear h hb hl
  have b0 : w.cell? ⟨g0, 0, none⟩ = some (Value.pointer (some ⟨B, 0, none⟩)) := (show Row w g0 35 #[Value.pointer (some ⟨B, 0, none⟩)] from HB0.out _ (.head _)).cell_ (i := 0) rfl
  have b1 : w.cell? ⟨g1, 0, none⟩ = some (.int .i64 a) := (show Row w g1 3 #[.int .i64 a] from HB0.out _ (.tail _ (.head _))).cell_ (i := 0) rfl
  have b2 : w.cell? ⟨g2, 0, none⟩ = some (.slice VA l.length vc) := (show Row w g2 75 #[.slice VA l.length vc] from HB0.out _ (.tail _ (.tail _ (.head _)))).cell_ (i := 0) rfl
  cases d
  · rw [if_neg Bool.false_ne_true]
    go_enter Tryz.func76, Tryz.ntmps76
    go_wp2_with fail
    clear b0 b1 b2
    refine HC.out.mono ?_
    rintro e w1 ⟨rfl, hO, nv1, hP⟩
    have HO1 := Lib.hid (HO0.out.trans hO)
    have HB1 := Lib.hid (HB0.out.turn HP0.out hO aside_4)
    have HP1 := Lib.hid hP
    clear hO hP HP0 HO0 HB0
    go_wp2
    go_returns
    exact ⟨rfl, HO1.out, nv1, HP1.out⟩
  · rw [if_pos rfl]
    go_enter Tryz.func76, Tryz.ntmps76
    go_wp2_with fail
    clear b0 b1 b2
    refine HC.out.mono ?_
    rintro e w1 ⟨rfl, hO, nv1, hP⟩
    have HO1 := Lib.hid (HO0.out.trans hO)
    have HB1 := Lib.hid (HB0.out.turn HP0.out hO aside_4)
    have HP1 := Lib.hid hP
    clear hO hP HP0 HO0 HB0
    have b0 : w1.cell? ⟨g0, 0, none⟩ = some (Value.pointer (some ⟨B, 0, none⟩)) := (show Row w1 g0 35 #[Value.pointer (some ⟨B, 0, none⟩)] from HB1.out _ (.head _)).cell_ (i := 0) rfl
    have b3 : w1.cell? ⟨g3, 0, none⟩ = some (.bool ok) := (show Row w1 g3 4 #[.bool ok] from HB1.out _ (.tail _ (.tail _ (.tail _ (.head _))))).cell_ (i := 0) rfl
    go_wp2_with fail
    clear b0 b3
    refine (end_run B p A cp nv1 _ _ ok HP1.out).mono ?_
    rintro e w4 ⟨rfl, hO, nv4, hP⟩
    have HO4 := Lib.hid (HO1.out.trans hO)
    have HP4 := Lib.hid hP
    clear hO hP
    go_wp2
    go_returns
    exact ⟨rfl, HO4.out, nv4, HP4.out⟩
theorem give_make (B : Nat) (p A : Option Addr) (cp : Nat) (nv : Value) (r : LS) (a : Int) (ok : Bool) (V : Value) (l : List Int) (w : World) (h : RunP w B p A cp nv r) (hl : r.ns.length ≤ 900) (hx : Words r.xs) (ha : 0 ≤ r.a ∧ r.a < 4294967296) (hw : Whats B A w V l) (hm : l.length ≤ 90) (hr0 : -1000 ≤ a) (hr1 : a ≤ 1000) :
    Calls Tryz.prog 42 #[Value.pointer (some ⟨B, 0, none⟩), .int .i64 a, .bool ok, V] w (Clo 76 B p A cp (r.qGive a ok l) w) := by
  have e0 := ((((Only.refl Nil w).alloc (.cells #[Value.pointer (some ⟨B, 0, none⟩)] 35)).alloc (.cells #[.int .i64 a] 3)).alloc (.cells #[.bool ok] 4)).alloc (.cells #[V] 75)
  have r0 := ((((Row.new w 35 #[Value.pointer (some ⟨B, 0, none⟩)]).alloc (.cells #[.int .i64 a] 3)).alloc (.cells #[.bool ok] 4)).alloc (.cells #[V] 75))
  have HC := Lib.hid (give_clo B p A cp nv r a ok V l w.heap.size (w.heap.size + 1) (w.heap.size + 1 + 1 + 1) (w.heap.size + 1 + 1) _ (h.keep e0) hl hx ha (hw.move (e0.mono (fun _ _ h => h.elim))) hm hr0 hr1
    (RowsL.cons (L := [_, _, _]) (RowsL.cons (L := [_, _]) (RowsL.cons (L := [_]) (RowsL.cons (L := []) (fun _ h => by simp at h) ((Row.at (by simp)).alloc _)) (Row.at (by simp))) (((Row.at (by simp)).alloc _).alloc _)) r0))
  have HE := Lib.hid e0
  obtain ⟨VA, vc, rfl, _⟩ := hw
  clear h hl hx ha e0 r0 hm hr0 hr1
  go_enter Tryz.func42, Tryz.ntmps42
  go_wp2
  go_ret
  exact ⟨_, rfl, HE.out, HC.out⟩
-- a try
theorem try_clo (B : Nat) (p A : Option Addr) (cp : Nat) (nv : Value) (r : LS) (cl n : Int) (g0 g1 g2 : Nat) (w : World) (h : RunP w B p A cp nv r) (hl : r.ns.length ≤ 900) (hx : Words r.xs) (ha : 0 ≤ r.a ∧ r.a < 4294967296) (hb : RowsL w [(g0, 35, #[Value.pointer (some ⟨B, 0, none⟩)]), (g1, 3, #[.int .i64 cl]), (g2, 3, #[.int .i64 n])]) :
    Calls Tryz.prog 83 #[.pointer (some ⟨g0, 0, none⟩), .pointer (some ⟨g1, 0, none⟩), .pointer (some ⟨g2, 0, none⟩)] w (Done B p A cp w (.tuple #[]) (r.qTryG cl n)) := by
  have hc := try_run B p A cp nv r 0 0 w h hl hx ha (by decide) (by decide)
  have hg : (r.mxTry 0 0).1.ns.length ≤ 900 := by rw [try_ns]; exact hl
  have hdi := try_done (r := r)
  obtain ⟨r', d, i, hd⟩ : ∃ r' d i, r.mxTry 0 0 = (r', d, i) := ⟨_, _, _, rfl⟩
  rw [qTryG_of hd]
  rw [hd] at hc hdi hg
  have HC := Lib.hid hc
  have HG := Lib.hid (show r'.ns.length ≤ 900 from hg)
  clear hc hd hx ha hg
  have HP0 := Lib.hid h
  have HB0 := Lib.hid hb
  have HL := Lib.hid hl
  have HO0 := Lib.hid (Only.refl (TurnB B A) w)
  clear h hb hl
  have b0 : w.cell? ⟨g0, 0, none⟩ = some (Value.pointer (some ⟨B, 0, none⟩)) := (show Row w g0 35 #[Value.pointer (some ⟨B, 0, none⟩)] from HB0.out _ (.head _)).cell_ (i := 0) rfl
  cases i
  · cases d
    · rw [if_neg Bool.false_ne_true, if_neg Bool.false_ne_true]
      clear hdi
      go_enter Tryz.func83, Tryz.ntmps83
      go_wp2_with fail
      clear b0
      refine HC.out.mono ?_
      rintro e w1 ⟨rfl, hO, nv1, hP⟩
      have HO1 := Lib.hid (HO0.out.trans hO)
      have HB1 := Lib.hid (HB0.out.turn HP0.out hO aside_3)
      have HP1 := Lib.hid hP
      clear hO hP HP0 HO0 HB0
      go_wp2
      go_returns
      exact ⟨rfl, HO1.out, nv1, HP1.out⟩
    · rw [if_neg Bool.false_ne_true, if_pos rfl]
      clear hdi
      go_enter Tryz.func83, Tryz.ntmps83
      go_wp2_with fail
      clear b0
      refine HC.out.mono ?_
      rintro e w1 ⟨rfl, hO, nv1, hP⟩
      have HO1 := Lib.hid (HO0.out.trans hO)
      have HB1 := Lib.hid (HB0.out.turn HP0.out hO aside_3)
      have HP1 := Lib.hid hP
      clear hO hP HP0 HO0 HB0
      have b0 : w1.cell? ⟨g0, 0, none⟩ = some (Value.pointer (some ⟨B, 0, none⟩)) := (show Row w1 g0 35 #[Value.pointer (some ⟨B, 0, none⟩)] from HB1.out _ (.head _)).cell_ (i := 0) rfl
      go_wp2_with fail
      clear b0
      refine (note_run B p A cp nv1 _ 5 0 _ HP1.out (Nat.le_trans HG.out (by decide))).mono ?_
      rintro e w2 ⟨rfl, hO, nv2, hP⟩
      have HO2 := Lib.hid (HO1.out.trans hO)
      have HB2 := Lib.hid (HB1.out.turn HP1.out hO aside_3)
      have HP2 := Lib.hid hP
      clear hO hP HP1 HO1 HB1
      have b0 : w2.cell? ⟨g0, 0, none⟩ = some (Value.pointer (some ⟨B, 0, none⟩)) := (show Row w2 g0 35 #[Value.pointer (some ⟨B, 0, none⟩)] from HB2.out _ (.head _)).cell_ (i := 0) rfl
      go_wp2_with fail
      clear b0
      refine (end_run B p A cp nv2 _ _ false HP2.out).mono ?_
      rintro e w4 ⟨rfl, hO, nv4, hP⟩
      have HO4 := Lib.hid (HO2.out.trans hO)
      have HP4 := Lib.hid hP
      clear hO hP
      go_wp2
      go_returns
      exact ⟨rfl, HO4.out, nv4, HP4.out⟩
  · cases d
    · cases hdi rfl
    · rw [if_pos rfl]
      clear hdi
      go_enter Tryz.func83, Tryz.ntmps83
      go_wp2_with fail
      clear b0
      refine HC.out.mono ?_
      rintro e w1 ⟨rfl, hO, nv1, hP⟩
      have HO1 := Lib.hid (HO0.out.trans hO)
      have HB1 := Lib.hid (HB0.out.turn HP0.out hO aside_3)
      have HP1 := Lib.hid hP
      clear hO hP HP0 HO0 HB0
      have b0 : w1.cell? ⟨g0, 0, none⟩ = some (Value.pointer (some ⟨B, 0, none⟩)) := (show Row w1 g0 35 #[Value.pointer (some ⟨B, 0, none⟩)] from HB1.out _ (.head _)).cell_ (i := 0) rfl
      have b1 : w1.cell? ⟨g1, 0, none⟩ = some (.int .i64 cl) := (show Row w1 g1 3 #[.int .i64 cl] from HB1.out _ (.tail _ (.head _))).cell_ (i := 0) rfl
      go_wp2_with fail
      clear b0 b1
      refine (note_run B p A cp nv1 _ 2 cl _ HP1.out (Nat.le_trans HG.out (by decide))).mono ?_
      rintro e w2 ⟨rfl, hO, nv2, hP⟩
      have HO2 := Lib.hid (HO1.out.trans hO)
      have HB2 := Lib.hid (HB1.out.turn HP1.out hO aside_3)
      have HP2 := Lib.hid hP
      clear hO hP HP1 HO1 HB1
      have b0 : w2.cell? ⟨g0, 0, none⟩ = some (Value.pointer (some ⟨B, 0, none⟩)) := (show Row w2 g0 35 #[Value.pointer (some ⟨B, 0, none⟩)] from HB2.out _ (.head _)).cell_ (i := 0) rfl
      have b2 : w2.cell? ⟨g2, 0, none⟩ = some (.int .i64 n) := (show Row w2 g2 3 #[.int .i64 n] from HB2.out _ (.tail _ (.tail _ (.head _)))).cell_ (i := 0) rfl
      go_wp2_with fail
      clear b0 b2
      refine (go_run B p A cp nv2 _ n _ HP2.out).mono ?_
      rintro e w4 ⟨rfl, hO, nv4, hP⟩
      have HO4 := Lib.hid (HO2.out.trans hO)
      have HP4 := Lib.hid hP
      clear hO hP
      go_wp2
      go_returns
      exact ⟨rfl, HO4.out, nv4, HP4.out⟩
theorem try_make (B : Nat) (p A : Option Addr) (cp : Nat) (nv : Value) (r : LS) (cl n : Int) (w : World) (h : RunP w B p A cp nv r) (hl : r.ns.length ≤ 900) (hx : Words r.xs) (ha : 0 ≤ r.a ∧ r.a < 4294967296) :
    Calls Tryz.prog 45 #[Value.pointer (some ⟨B, 0, none⟩), .int .i64 cl, .int .i64 n] w (Clo 83 B p A cp (r.qTryG cl n) w) := by
  have e0 := (((Only.refl Nil w).alloc (.cells #[Value.pointer (some ⟨B, 0, none⟩)] 35)).alloc (.cells #[.int .i64 cl] 3)).alloc (.cells #[.int .i64 n] 3)
  have HC := Lib.hid (try_clo B p A cp nv r cl n w.heap.size (w.heap.size + 1) (w.heap.size + 1 + 1) _ (h.keep e0) hl hx ha (RowsL.cons (L := [_, _]) (RowsL.cons (L := [_]) (RowsL.cons (L := []) (fun _ h => by simp at h) (Row.at (by simp))) ((Row.at (by simp)).alloc _)) (((Row.new w 35 #[Value.pointer (some ⟨B, 0, none⟩)]).alloc _).alloc _)))
  have HE := Lib.hid e0
  clear h hl hx ha e0
  go_enter Tryz.func45, Tryz.ntmps45
  go_wp2
  go_ret
  exact ⟨_, rfl, HE.out, HC.out⟩
-- the count
theorem cin_clo (B : Nat) (p A : Option Addr) (cp : Nat) (nv : Value) (r : LS) (n : Int) (g0 g1 : Nat) (w : World) (h : RunP w B p A cp nv r) (hl : r.ns.length ≤ 900) (hb : RowsL w [(g0, 35, #[Value.pointer (some ⟨B, 0, none⟩)]), (g1, 3, #[.int .i64 n])]) :
    Calls Tryz.prog 74 #[.pointer (some ⟨g0, 0, none⟩), .pointer (some ⟨g1, 0, none⟩)] w (Done B p A cp w (.tuple #[]) ((r.doA 3 1 1 0).go n)) := by
  have HP0 := Lib.hid h
  have HB0 := Lib.hid hb
  have HL := Lib.hid hl
  have HO0 := Lib.hid (Only.refl (TurnB B A) w)
  clear h hb hl
  have b0 : w.cell? ⟨g0, 0, none⟩ = some (Value.pointer (some ⟨B, 0, none⟩)) := (show Row w g0 35 #[Value.pointer (some ⟨B, 0, none⟩)] from HB0.out _ (.head _)).cell_ (i := 0) rfl
  go_enter Tryz.func74, Tryz.ntmps74
  go_wp2_with fail
  clear b0
  refine (add_run B p A cp nv r 1 1 _ HP0.out).mono ?_
  rintro e w1 ⟨rfl, hO, nv1, hP⟩
  have HO1 := Lib.hid (HO0.out.trans hO)
  have HB1 := Lib.hid (HB0.out.turn HP0.out hO aside_2)
  have HP1 := Lib.hid hP
  clear hO hP HP0 HO0 HB0
  have b0 : w1.cell? ⟨g0, 0, none⟩ = some (Value.pointer (some ⟨B, 0, none⟩)) := (show Row w1 g0 35 #[Value.pointer (some ⟨B, 0, none⟩)] from HB1.out _ (.head _)).cell_ (i := 0) rfl
  have b1 : w1.cell? ⟨g1, 0, none⟩ = some (.int .i64 n) := (show Row w1 g1 3 #[.int .i64 n] from HB1.out _ (.tail _ (.head _))).cell_ (i := 0) rfl
  go_wp2_with fail
  clear b0 b1
  refine (go_run B p A cp nv1 _ n _ HP1.out).mono ?_
  rintro e w4 ⟨rfl, hO, nv4, hP⟩
  have HO4 := Lib.hid (HO1.out.trans hO)
  have HP4 := Lib.hid hP
  clear hO hP
  go_wp2
  go_returns
  exact ⟨rfl, HO4.out, nv4, HP4.out⟩
theorem cin_make (B : Nat) (p A : Option Addr) (cp : Nat) (nv : Value) (r : LS) (n : Int) (w : World) (h : RunP w B p A cp nv r) (hl : r.ns.length ≤ 900) :
    Calls Tryz.prog 41 #[Value.pointer (some ⟨B, 0, none⟩), .int .i64 n] w (Clo 74 B p A cp ((r.doA 3 1 1 0).go n) w) := by
  have e0 := ((Only.refl Nil w).alloc (.cells #[Value.pointer (some ⟨B, 0, none⟩)] 35)).alloc (.cells #[.int .i64 n] 3)
  have HC := Lib.hid (cin_clo B p A cp nv r n w.heap.size (w.heap.size + 1) _ (h.keep e0) hl (RowsL.cons (L := [_]) (RowsL.cons (L := []) (fun _ h => by simp at h) (Row.at (by simp))) ((Row.new w 35 #[Value.pointer (some ⟨B, 0, none⟩)]).alloc _)))
  have HE := Lib.hid e0
  clear h hl e0
  go_enter Tryz.func41, Tryz.ntmps41
  go_wp2
  go_ret
  exact ⟨_, rfl, HE.out, HC.out⟩
theorem cout_clo (B : Nat) (p A : Option Addr) (cp : Nat) (nv : Value) (r : LS) (g0 : Nat) (w : World) (h : RunP w B p A cp nv r) (hl : r.ns.length ≤ 900) (hb : RowsL w [(g0, 35, #[Value.pointer (some ⟨B, 0, none⟩)])]) :
    Calls Tryz.prog 78 #[.pointer (some ⟨g0, 0, none⟩)] w (Done B p A cp w (.tuple #[]) ((((r.doA 3 1 4294967295 0).note 6 0).wake 1).fin true)) := by
  have HP0 := Lib.hid h
  have HB0 := Lib.hid hb
  have HL := Lib.hid hl
  have HO0 := Lib.hid (Only.refl (TurnB B A) w)
  clear h hb hl
  have b0 : w.cell? ⟨g0, 0, none⟩ = some (Value.pointer (some ⟨B, 0, none⟩)) := (show Row w g0 35 #[Value.pointer (some ⟨B, 0, none⟩)] from HB0.out _ (.head _)).cell_ (i := 0) rfl
  go_enter Tryz.func78, Tryz.ntmps78
  go_wp2_with fail
  clear b0
  refine (add_run B p A cp nv r 1 4294967295 _ HP0.out).mono ?_
  rintro e w1 ⟨rfl, hO, nv1, hP⟩
  have HO1 := Lib.hid (HO0.out.trans hO)
  have HB1 := Lib.hid (HB0.out.turn HP0.out hO aside_1)
  have HP1 := Lib.hid hP
  clear hO hP HP0 HO0 HB0
  have b0 : w1.cell? ⟨g0, 0, none⟩ = some (Value.pointer (some ⟨B, 0, none⟩)) := (show Row w1 g0 35 #[Value.pointer (some ⟨B, 0, none⟩)] from HB1.out _ (.head _)).cell_ (i := 0) rfl
  go_wp2_with fail
  clear b0
  refine (note_run B p A cp nv1 _ 6 0 _ HP1.out (show (r.doA 3 1 4294967295 0).ns.length ≤ 1000 from Nat.le_trans HL.out (by decide))).mono ?_
  rintro e w2 ⟨rfl, hO, nv2, hP⟩
  have HO2 := Lib.hid (HO1.out.trans hO)
  have HB2 := Lib.hid (HB1.out.turn HP1.out hO aside_1)
  have HP2 := Lib.hid hP
  clear hO hP HP1 HO1 HB1
  have b0 : w2.cell? ⟨g0, 0, none⟩ = some (Value.pointer (some ⟨B, 0, none⟩)) := (show Row w2 g0 35 #[Value.pointer (some ⟨B, 0, none⟩)] from HB2.out _ (.head _)).cell_ (i := 0) rfl
  go_wp2_with fail
  clear b0
  refine (wake_run B p A cp nv2 _ 1 _ HP2.out).mono ?_
  rintro e w3 ⟨rfl, hO, nv3, hP⟩
  have HO3 := Lib.hid (HO2.out.trans hO)
  have HB3 := Lib.hid (HB2.out.turn HP2.out hO aside_1)
  have HP3 := Lib.hid hP
  clear hO hP HP2 HO2 HB2
  have b0 : w3.cell? ⟨g0, 0, none⟩ = some (Value.pointer (some ⟨B, 0, none⟩)) := (show Row w3 g0 35 #[Value.pointer (some ⟨B, 0, none⟩)] from HB3.out _ (.head _)).cell_ (i := 0) rfl
  go_wp2_with fail
  clear b0
  refine (end_run B p A cp nv3 _ _ true HP3.out).mono ?_
  rintro e w4 ⟨rfl, hO, nv4, hP⟩
  have HO4 := Lib.hid (HO3.out.trans hO)
  have HP4 := Lib.hid hP
  clear hO hP
  go_wp2
  go_returns
  exact ⟨rfl, HO4.out, nv4, HP4.out⟩
theorem cout_make (B : Nat) (p A : Option Addr) (cp : Nat) (nv : Value) (r : LS) (w : World) (h : RunP w B p A cp nv r) (hl : r.ns.length ≤ 900) :
    Calls Tryz.prog 43 #[Value.pointer (some ⟨B, 0, none⟩)] w (Clo 78 B p A cp ((((r.doA 3 1 4294967295 0).note 6 0).wake 1).fin true) w) := by
  have e0 := (Only.refl Nil w).alloc (.cells #[Value.pointer (some ⟨B, 0, none⟩)] 35)
  have HC := Lib.hid (cout_clo B p A cp nv r _ _ (h.keep e0) hl (RowsL.cons (L := []) (fun _ h => by simp at h) (Row.new w 35 #[Value.pointer (some ⟨B, 0, none⟩)])))
  have HE := Lib.hid e0
  clear h hl e0
  go_enter Tryz.func43, Tryz.ntmps43
  go_wp2
  go_ret
  exact ⟨_, rfl, HE.out, HC.out⟩
theorem stop_clo (B : Nat) (p A : Option Addr) (cp : Nat) (nv : Value) (r : LS) (g0 : Nat) (w : World) (h : RunP w B p A cp nv r) (hl : r.ns.length ≤ 900) (hb : RowsL w [(g0, 35, #[Value.pointer (some ⟨B, 0, none⟩)])]) :
    Calls Tryz.prog 88 #[.pointer (some ⟨g0, 0, none⟩)] w (Done B p A cp w (.tuple #[]) (((r.doA 3 1 4294967295 0).note 9 0).fin true)) := by
  have HP0 := Lib.hid h
  have HB0 := Lib.hid hb
  have HL := Lib.hid hl
  have HO0 := Lib.hid (Only.refl (TurnB B A) w)
  clear h hb hl
  have b0 : w.cell? ⟨g0, 0, none⟩ = some (Value.pointer (some ⟨B, 0, none⟩)) := (show Row w g0 35 #[Value.pointer (some ⟨B, 0, none⟩)] from HB0.out _ (.head _)).cell_ (i := 0) rfl
  go_enter Tryz.func88, Tryz.ntmps88
  go_wp2_with fail
  clear b0
  refine (add_run B p A cp nv r 1 4294967295 _ HP0.out).mono ?_
  rintro e w1 ⟨rfl, hO, nv1, hP⟩
  have HO1 := Lib.hid (HO0.out.trans hO)
  have HB1 := Lib.hid (HB0.out.turn HP0.out hO aside_1)
  have HP1 := Lib.hid hP
  clear hO hP HP0 HO0 HB0
  have b0 : w1.cell? ⟨g0, 0, none⟩ = some (Value.pointer (some ⟨B, 0, none⟩)) := (show Row w1 g0 35 #[Value.pointer (some ⟨B, 0, none⟩)] from HB1.out _ (.head _)).cell_ (i := 0) rfl
  go_wp2_with fail
  clear b0
  refine (note_run B p A cp nv1 _ 9 0 _ HP1.out (show (r.doA 3 1 4294967295 0).ns.length ≤ 1000 from Nat.le_trans HL.out (by decide))).mono ?_
  rintro e w2 ⟨rfl, hO, nv2, hP⟩
  have HO2 := Lib.hid (HO1.out.trans hO)
  have HB2 := Lib.hid (HB1.out.turn HP1.out hO aside_1)
  have HP2 := Lib.hid hP
  clear hO hP HP1 HO1 HB1
  have b0 : w2.cell? ⟨g0, 0, none⟩ = some (Value.pointer (some ⟨B, 0, none⟩)) := (show Row w2 g0 35 #[Value.pointer (some ⟨B, 0, none⟩)] from HB2.out _ (.head _)).cell_ (i := 0) rfl
  go_wp2_with fail
  clear b0
  refine (end_run B p A cp nv2 _ _ true HP2.out).mono ?_
  rintro e w4 ⟨rfl, hO, nv4, hP⟩
  have HO4 := Lib.hid (HO2.out.trans hO)
  have HP4 := Lib.hid hP
  clear hO hP
  go_wp2
  go_returns
  exact ⟨rfl, HO4.out, nv4, HP4.out⟩
theorem stop_make (B : Nat) (p A : Option Addr) (cp : Nat) (nv : Value) (r : LS) (w : World) (h : RunP w B p A cp nv r) (hl : r.ns.length ≤ 900) :
    Calls Tryz.prog 52 #[Value.pointer (some ⟨B, 0, none⟩)] w (Clo 88 B p A cp (((r.doA 3 1 4294967295 0).note 9 0).fin true) w) := by
  have e0 := (Only.refl Nil w).alloc (.cells #[Value.pointer (some ⟨B, 0, none⟩)] 35)
  have HC := Lib.hid (stop_clo B p A cp nv r _ _ (h.keep e0) hl (RowsL.cons (L := []) (fun _ h => by simp at h) (Row.new w 35 #[Value.pointer (some ⟨B, 0, none⟩)])))
  have HE := Lib.hid e0
  clear h hl e0
  go_enter Tryz.func52, Tryz.ntmps52
  go_wp2
  go_ret
  exact ⟨_, rfl, HE.out, HC.out⟩
-- what follows a look at the count
theorem then_1 (B : Nat) (p A : Option Addr) (cp : Nat) (nv : Value) (r : LS) (g0 : Nat) (w : World) (h : RunP w B p A cp nv r) (hl : r.ns.length ≤ 900) (hb : RowsL w [(g0, 35, #[Value.pointer (some ⟨B, 0, none⟩)])]) :
    Calls Tryz.prog 47 #[.pointer (some ⟨g0, 0, none⟩)] w (Done B p A cp w (.tuple #[]) ((r.note 4 0).fin true)) := by
  have HP0 := Lib.hid h
  have HB0 := Lib.hid hb
  have HL := Lib.hid hl
  have HO0 := Lib.hid (Only.refl (TurnB B A) w)
  clear h hb hl
  have b0 : w.cell? ⟨g0, 0, none⟩ = some (Value.pointer (some ⟨B, 0, none⟩)) := (show Row w g0 35 #[Value.pointer (some ⟨B, 0, none⟩)] from HB0.out _ (.head _)).cell_ (i := 0) rfl
  go_enter Tryz.func47, Tryz.ntmps47
  go_wp2_with fail
  clear b0
  refine (note_run B p A cp nv _ 4 0 _ HP0.out (Nat.le_trans HL.out (by decide))).mono ?_
  rintro e w1 ⟨rfl, hO, nv1, hP⟩
  have HO1 := Lib.hid (HO0.out.trans hO)
  have HB1 := Lib.hid (HB0.out.turn HP0.out hO aside_1)
  have HP1 := Lib.hid hP
  clear hO hP HP0 HO0 HB0
  have b0 : w1.cell? ⟨g0, 0, none⟩ = some (Value.pointer (some ⟨B, 0, none⟩)) := (show Row w1 g0 35 #[Value.pointer (some ⟨B, 0, none⟩)] from HB1.out _ (.head _)).cell_ (i := 0) rfl
  go_wp2_with fail
  clear b0
  refine (end_run B p A cp nv1 _ _ true HP1.out).mono ?_
  rintro e w4 ⟨rfl, hO, nv4, hP⟩
  have HO4 := Lib.hid (HO1.out.trans hO)
  have HP4 := Lib.hid hP
  clear hO hP
  go_wp2
  go_returns
  exact ⟨rfl, HO4.out, nv4, HP4.out⟩
theorem then_2 (B : Nat) (p A : Option Addr) (cp : Nat) (nv : Value) (r : LS) (g0 : Nat) (w : World) (h : RunP w B p A cp nv r) (hl : r.ns.length ≤ 900) (hb : RowsL w [(g0, 35, #[Value.pointer (some ⟨B, 0, none⟩)])]) :
    Calls Tryz.prog 50 #[.pointer (some ⟨g0, 0, none⟩)] w (Done B p A cp w (.tuple #[]) (r.go 3)) := by
  have HP0 := Lib.hid h
  have HB0 := Lib.hid hb
  have HL := Lib.hid hl
  have HO0 := Lib.hid (Only.refl (TurnB B A) w)
  clear h hb hl
  have b0 : w.cell? ⟨g0, 0, none⟩ = some (Value.pointer (some ⟨B, 0, none⟩)) := (show Row w g0 35 #[Value.pointer (some ⟨B, 0, none⟩)] from HB0.out _ (.head _)).cell_ (i := 0) rfl
  go_enter Tryz.func50, Tryz.ntmps50
  go_wp2_with fail
  clear b0
  refine (go_run B p A cp nv _ 3 _ HP0.out).mono ?_
  rintro e w4 ⟨rfl, hO, nv4, hP⟩
  have HO4 := Lib.hid (HO0.out.trans hO)
  have HP4 := Lib.hid hP
  clear hO hP
  go_wp2
  go_returns
  exact ⟨rfl, HO4.out, nv4, HP4.out⟩
end Go.Proofs.YtkkldcggbekleaaGreat
