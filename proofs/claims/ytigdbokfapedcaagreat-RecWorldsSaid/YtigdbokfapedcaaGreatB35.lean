/- FqC, FqW, FqN. -/
import Derived.Test.YtigdbokfapedcaaGreatB13
import Derived.Test.YtigdbokfapedcaaGreatB4
import Derived.Test.YtigdbokfapedcaaGreatB14
import Derived.Test.YtigdbokfapedcaaGreatB15
/- fq's lines, the program's: the closures that a step is made of. -/
set_option linter.unusedVariables false
set_option linter.unusedSimpArgs false
namespace Go.Proofs.YtigdbokfapedcaaGreat
open Go.RowKit
theorem fq_aside_b : Aside 4 := ⟨by decide, by decide, by decide⟩
theorem fq_aside_s : Aside 35 := ⟨by decide, by decide, by decide⟩

theorem qEnter_of {r r' : LS} {cl : Int} {d : Bool} (h : r.mxEnter 0 cl = (r', d)) : r.qEnter cl = if d then r'.go 5 else r' := by unfold LS.qEnter; rw [h]
theorem qGive_of {r r' : LS} {a : Int} {ok : Bool} {l : List Int} {d : Bool} (h : r.mxGive 0 a l = (r', d)) : r.qGive a ok l = if d then r'.fin ok else r' := by unfold LS.qGive; rw [h]
/-- A try of a request of that class, that goes on to the line n. -/
def LS.qTryG (r : LS) (cl n : Int) : LS :=
  if (r.mxTry 0 0).2.2 then ((r.mxTry 0 0).1.note 2 cl).go n else if (r.mxTry 0 0).2.1 then ((r.mxTry 0 0).1.note 5 0).fin false else (r.mxTry 0 0).1
theorem qTryG_of {r r' : LS} {cl n : Int} {d i : Bool} (h : r.mxTry 0 0 = (r', d, i)) : r.qTryG cl n = if i then (r'.note 2 cl).go n else if d then (r'.note 5 0).fin false else r' := by unfold LS.qTryG; rw [h]
theorem try_done {r : LS} (h : (r.mxTry 0 0).2.1 = false) : (r.mxTry 0 0).2.2 = false := by
  unfold LS.mxTry at h ⊢
  by_cases l0 : r.line = 0
  · rw [if_pos l0]
  by_cases l1 : r.line = 0 + 1
  · rw [if_neg l0, if_pos l1] at h; cases h
  · rw [if_neg l0, if_neg l1]
theorem try_ns (r : LS) : (r.mxTry 0 0).1.ns = r.ns := by unfold LS.mxTry; (repeat' split) <;> rfl
theorem qTry_5 {r : LS} (h : r.op = 5) : r.qTry = r.qTryG 1 5 := by
  unfold LS.qTry LS.qTryG
  have hd := try_done (r := r)
  rw [if_pos h]
  generalize r.mxTry 0 0 = t at hd ⊢
  obtain ⟨r', d, i⟩ := t
  cases d
  · have : i = false := hd rfl
    subst this; rfl
  · cases i <;> rfl
theorem qTry_6 {r : LS} (h : r.op ≠ 5) : r.qTry = r.qTryG 2 2 := by
  unfold LS.qTry LS.qTryG
  have hd := try_done (r := r)
  rw [if_neg h]
  generalize r.mxTry 0 0 = t at hd ⊢
  obtain ⟨r', d, i⟩ := t
  cases d
  · have : i = false := hd rfl
    subst this; rfl
  · cases i <;> rfl

section
variable {B g0 g1 g2 g3 : Nat} {p A : Option Addr} {cp : Nat} {nv : Value} {r : LS} {w : World}
-- entering
theorem enter_clo (cl : Int) (S : St w B p A cp [(g0, 99, #[Value.pointer (some ⟨B, 0, none⟩)]), (g1, 3, #[.int .i64 cl])] 900 r w) (hx : Words r.xs) (ha : 0 ≤ r.a ∧ r.a < 4294967296) : Calls Tryz.prog 213 #[.pointer (some ⟨g0, 0, none⟩), .pointer (some ⟨g1, 0, none⟩)] w (Done B p A cp w (.tuple #[]) (r.qEnter cl)) := by
  obtain ⟨r', d, hd⟩ : ∃ r' d, r.mxEnter 0 cl = (r', d) := ⟨_, _, rfl⟩
  have HC := Lib.hid (fun nv h => (by have hc := enter_run B p A cp nv r 0 cl w h S.len hx ha; rw [hd] at hc; exact hc : Calls Tryz.prog 198 #[Value.pointer (some ⟨B, 0, none⟩), .int .i64 0, .int .i64 cl] w (Done B p A cp w (.bool d) r')))
  have H := Lib.hid (qEnter_of hd)
  have b0 := S.c0
  have b1 := S.rows.c1
  clear hd hx ha
  cases d
  all_goals (go_enter Tryz.func213, Tryz.ntmps213)
  · go_wp2_with fail
    refine S.call0 HC.out (Nat.le_refl _) fun w S b0 => ?_
    go_wp2
    go_returns
    exact S.fit (by rw [H.out]; rfl)
  · go_wp2_with fail
    refine S.call0 HC.out (Nat.le_refl _) fun w S b0 => ?_
    go_wp2_with fail
    refine sGo S fun w S b0 => ?_
    go_wp2
    go_returns
    exact S.fit (by rw [H.out]; rfl)
theorem enter_make (cl : Int) (h : RunP w B p A cp nv r) (hl : r.ns.length ≤ 900) (hx : Words r.xs) (ha : 0 ≤ r.a ∧ r.a < 4294967296) : Calls Tryz.prog 126 #[Value.pointer (some ⟨B, 0, none⟩), .int .i64 cl] w (Clo 213 B p A cp (r.qEnter cl) w) := by
  obtain ⟨e, S⟩ := mk2 h hl aside_i
  have HC := Lib.hid (enter_clo cl S hx ha)
  clear S h hl hx ha
  go_enter Tryz.func126, Tryz.ntmps126
  go_wp2
  go_ret
  exact ⟨_, rfl, e, HC.out⟩

-- giving on
theorem give_clo (a : Int) (ok : Bool) (V : Value) (l : List Int) (S : St w B p A cp [(g0, 99, #[Value.pointer (some ⟨B, 0, none⟩)]), (g1, 3, #[.int .i64 a]), (g2, 35, #[V]), (g3, 4, #[.bool ok])] 900 r w) (hx : Words r.xs) (ha : 0 ≤ r.a ∧ r.a < 4294967296) (hw : Whats B A w V l) (hm : l.length ≤ 90) (hr0 : -1000 ≤ a) (hr1 : a ≤ 1000) :
    Calls Tryz.prog 215 #[.pointer (some ⟨g0, 0, none⟩), .pointer (some ⟨g1, 0, none⟩), .pointer (some ⟨g2, 0, none⟩), .pointer (some ⟨g3, 0, none⟩)] w (Done B p A cp w (.tuple #[]) (r.qGive a ok l)) := by
  obtain ⟨r', d, hd⟩ : ∃ r' d, r.mxGive 0 a l = (r', d) := ⟨_, _, rfl⟩
  have hc := fun nv h => give_run B p A cp nv r 0 a w h S.len hx ha V l hw hm hr0 hr1
  rw [hd] at hc
  have HC := Lib.hid hc
  have H := Lib.hid (qGive_of (ok := ok) hd)
  obtain ⟨VA, vc, rfl, _⟩ := hw
  have b0 := S.c0
  have b1 := S.rows.c1
  have b2 := S.rows.c2
  clear hc hd hx ha hm hr0 hr1
  cases d
  all_goals (go_enter Tryz.func215, Tryz.ntmps215)
  · go_wp2_with fail
    refine S.call0 HC.out (Nat.le_refl _) fun w S b0 => ?_
    go_wp2
    go_returns
    exact S.fit (by rw [H.out]; rfl)
  · go_wp2_with fail
    refine S.call0 HC.out (Nat.le_refl _) fun w S b0 => ?_
    have b3 := S.rows.c3
    go_wp2_with fail
    refine sEnd S fun w S b0 => ?_
    go_wp2
    go_returns
    exact S.fit (by rw [H.out]; rfl)
theorem give_make (a : Int) (ok : Bool) {V : Value} {l : List Int} (h : RunP w B p A cp nv r) (hl : r.ns.length ≤ 900) (hx : Words r.xs) (ha : 0 ≤ r.a ∧ r.a < 4294967296) (hw : Whats B A w V l) (hm : l.length ≤ 90) (hr0 : -1000 ≤ a) (hr1 : a ≤ 1000) :
    Calls Tryz.prog 128 #[Value.pointer (some ⟨B, 0, none⟩), .int .i64 a, .bool ok, V] w (Clo 215 B p A cp (r.qGive a ok l) w) := by
  obtain ⟨e, S⟩ := mk4 (v1 := .int .i64 a) (v2 := .bool ok) (v3 := V) h hl aside_i fq_aside_b fq_aside_s
  have HC := Lib.hid (give_clo a ok V l ⟨S.only, ((((rows_nil _).cons (S.rows _ (.tail _ (.tail _ (.head _))))).cons (S.rows _ (.tail _ (.tail _ (.tail _ (.head _)))))).cons (S.rows _ (.tail _ (.head _)))).cons (S.rows _ (.head _)), asides_cons aside_p (asides_cons aside_i (asides_cons fq_aside_s (asides_cons fq_aside_b asides_nil))), S.run, S.len⟩ hx ha (hw.move (e.mono (fun _ _ h => h.elim))) hm hr0 hr1)
  obtain ⟨VA, vc, rfl, _⟩ := hw
  clear S h hl hx ha hm hr0 hr1
  go_enter Tryz.func128, Tryz.ntmps128
  go_wp2
  go_ret
  exact ⟨_, rfl, e, HC.out⟩

-- a try
theorem try_clo (cl n : Int) (S : St w B p A cp [(g0, 99, #[Value.pointer (some ⟨B, 0, none⟩)]), (g1, 3, #[.int .i64 cl]), (g2, 3, #[.int .i64 n])] 900 r w) (hx : Words r.xs) (ha : 0 ≤ r.a ∧ r.a < 4294967296) :
    Calls Tryz.prog 219 #[.pointer (some ⟨g0, 0, none⟩), .pointer (some ⟨g1, 0, none⟩), .pointer (some ⟨g2, 0, none⟩)] w (Done B p A cp w (.tuple #[]) (r.qTryG cl n)) := by
  have hg : (r.mxTry 0 0).1.ns.length ≤ 900 := by rw [try_ns]; exact S.len
  have hdi := try_done (r := r)
  obtain ⟨r', d, i, hd⟩ : ∃ r' d i, r.mxTry 0 0 = (r', d, i) := ⟨_, _, _, rfl⟩
  have hc := fun nv h => try_run B p A cp nv r 0 0 w h S.len hx ha (by decide) (by decide)
  rw [hd] at hc hdi hg
  have HC := Lib.hid hc
  have HG := Lib.hid (show r'.ns.length ≤ 900 from hg)
  have H := Lib.hid (qTryG_of (cl := cl) (n := n) hd)
  have b0 := S.c0
  clear hc hd hx ha hg
  cases i
  · cases d
    · skip
      clear hdi
      go_enter Tryz.func219, Tryz.ntmps219
      go_wp2_with fail
      refine S.call0 HC.out HG.out fun w S b0 => ?_
      go_wp2
      go_returns
      exact S.fit (by rw [H.out]; rfl)
    · skip
      clear hdi
      go_enter Tryz.func219, Tryz.ntmps219
      go_wp2_with fail
      refine S.call0 HC.out HG.out fun w S b0 => ?_
      go_wp2_with fail
      refine sNote S fun w S b0 => ?_
      go_wp2_with fail
      refine sEnd S fun w S b0 => ?_
      go_wp2
      go_returns
      exact S.fit (by rw [H.out]; rfl)
  · cases d
    · cases hdi rfl
    · skip
      clear hdi
      go_enter Tryz.func219, Tryz.ntmps219
      go_wp2_with fail
      refine S.call0 HC.out HG.out fun w S b0 => ?_
      have b1 := S.rows.c1
      go_wp2_with fail
      refine sNote S fun w S b0 => ?_
      have b2 := S.rows.c2
      go_wp2_with fail
      refine sGo S fun w S b0 => ?_
      go_wp2
      go_returns
      exact S.fit (by rw [H.out]; rfl)
theorem try_make (cl n : Int) (h : RunP w B p A cp nv r) (hl : r.ns.length ≤ 900) (hx : Words r.xs) (ha : 0 ≤ r.a ∧ r.a < 4294967296) : Calls Tryz.prog 131 #[Value.pointer (some ⟨B, 0, none⟩), .int .i64 cl, .int .i64 n] w (Clo 219 B p A cp (r.qTryG cl n) w) := by
  obtain ⟨e, S⟩ := mk3 h hl aside_i aside_i
  have HC := Lib.hid (try_clo cl n S hx ha)
  clear S h hl hx ha
  go_enter Tryz.func131, Tryz.ntmps131
  go_wp2
  go_ret
  exact ⟨_, rfl, e, HC.out⟩

-- the count
theorem cin_clo (n : Int) (S : St w B p A cp [(g0, 99, #[Value.pointer (some ⟨B, 0, none⟩)]), (g1, 3, #[.int .i64 n])] 900 r w) : Calls Tryz.prog 214 #[.pointer (some ⟨g0, 0, none⟩), .pointer (some ⟨g1, 0, none⟩)] w (Done B p A cp w (.tuple #[]) ((r.doA 3 1 1 0).go n)) := by
  have b0 := S.c0
  go_enter Tryz.func214, Tryz.ntmps214
  go_wp2_with fail
  refine sAdd S fun w S b0 => ?_
  have b1 := S.rows.c1
  go_wp2_with fail
  refine sGo S fun w S b0 => ?_
  go_wp2
  go_returns
  exact S.done
theorem cin_make (n : Int) (h : RunP w B p A cp nv r) (hl : r.ns.length ≤ 900) : Calls Tryz.prog 127 #[Value.pointer (some ⟨B, 0, none⟩), .int .i64 n] w (Clo 214 B p A cp ((r.doA 3 1 1 0).go n) w) := by
  obtain ⟨e, S⟩ := mk2 h hl aside_i
  have HC := Lib.hid (cin_clo n S)
  clear S h hl 
  go_enter Tryz.func127, Tryz.ntmps127
  go_wp2
  go_ret
  exact ⟨_, rfl, e, HC.out⟩
theorem cout_clo (S : St w B p A cp [(g0, 99, #[Value.pointer (some ⟨B, 0, none⟩)])] 900 r w) : Calls Tryz.prog 216 #[.pointer (some ⟨g0, 0, none⟩)] w (Done B p A cp w (.tuple #[]) ((((r.doA 3 1 4294967295 0).note 6 0).wake 1).fin true)) := by
  have b0 := S.c0
  go_enter Tryz.func216, Tryz.ntmps216
  go_wp2_with fail
  refine sAdd S fun w S b0 => ?_
  go_wp2_with fail
  refine sNote S fun w S b0 => ?_
  go_wp2_with fail
  refine sWake S fun w S b0 => ?_
  go_wp2_with fail
  refine sEnd S fun w S b0 => ?_
  go_wp2
  go_returns
  exact S.done
theorem cout_make (h : RunP w B p A cp nv r) (hl : r.ns.length ≤ 900) : Calls Tryz.prog 129 #[Value.pointer (some ⟨B, 0, none⟩)] w (Clo 216 B p A cp ((((r.doA 3 1 4294967295 0).note 6 0).wake 1).fin true) w) := by
  obtain ⟨e, S⟩ := mk1 h hl
  have HC := Lib.hid (cout_clo S)
  clear S h hl 
  go_enter Tryz.func129, Tryz.ntmps129
  go_wp2
  go_ret
  exact ⟨_, rfl, e, HC.out⟩
theorem stop_clo (S : St w B p A cp [(g0, 99, #[Value.pointer (some ⟨B, 0, none⟩)])] 900 r w) : Calls Tryz.prog 222 #[.pointer (some ⟨g0, 0, none⟩)] w (Done B p A cp w (.tuple #[]) (((r.doA 3 1 4294967295 0).note 9 0).fin true)) := by
  have b0 := S.c0
  go_enter Tryz.func222, Tryz.ntmps222
  go_wp2_with fail
  refine sAdd S fun w S b0 => ?_
  go_wp2_with fail
  refine sNote S fun w S b0 => ?_
  go_wp2_with fail
  refine sEnd S fun w S b0 => ?_
  go_wp2
  go_returns
  exact S.done
theorem stop_make (h : RunP w B p A cp nv r) (hl : r.ns.length ≤ 900) : Calls Tryz.prog 135 #[Value.pointer (some ⟨B, 0, none⟩)] w (Clo 222 B p A cp (((r.doA 3 1 4294967295 0).note 9 0).fin true) w) := by
  obtain ⟨e, S⟩ := mk1 h hl
  have HC := Lib.hid (stop_clo S)
  clear S h hl 
  go_enter Tryz.func135, Tryz.ntmps135
  go_wp2
  go_ret
  exact ⟨_, rfl, e, HC.out⟩

-- what follows a look at the count
theorem fq_then_1 (S : St w B p A cp [(g0, 99, #[Value.pointer (some ⟨B, 0, none⟩)])] 900 r w) : Calls Tryz.prog 133 #[.pointer (some ⟨g0, 0, none⟩)] w (Done B p A cp w (.tuple #[]) ((r.note 4 0).fin true)) := by
  have b0 := S.c0
  go_enter Tryz.func133, Tryz.ntmps133
  go_wp2_with fail
  refine sNote S fun w S b0 => ?_
  go_wp2_with fail
  refine sEnd S fun w S b0 => ?_
  go_wp2
  go_returns
  exact S.done
theorem fq_then_2 (S : St w B p A cp [(g0, 99, #[Value.pointer (some ⟨B, 0, none⟩)])] 900 r w) : Calls Tryz.prog 134 #[.pointer (some ⟨g0, 0, none⟩)] w (Done B p A cp w (.tuple #[]) (r.go 3)) := by
  have b0 := S.c0
  go_enter Tryz.func134, Tryz.ntmps134
  go_wp2_with fail
  refine sGo S fun w S b0 => ?_
  go_wp2
  go_returns
  exact S.done
theorem fq_enters_1 : Enters1 133 := fun args w => by simp [callFunc, go_sem, Tryz.func133, Tryz.f133]
theorem fq_enters_2 : Enters1 134 := fun args w => by simp [callFunc, go_sem, Tryz.func134, Tryz.f134]
end
end Go.Proofs.YtigdbokfapedcaaGreat
/- fq's lines, the program's: the closures that wait for the readers, and weigh the count. -/
set_option linter.unusedVariables false
set_option linter.unusedSimpArgs false
namespace Go.Proofs.YtigdbokfapedcaaGreat
open Go.RowKit

theorem fzero_is (v : Int) (w : World) : Calls Tryz.prog 218 #[.int .u32 v] w fun e w' => e = .returned (.bool (v == 0)) ∧ w = w' := by
  go_enter Tryz.func218, Tryz.ntmps218
  go_wp2
  go_ret
  exact ⟨rfl, rfl⟩
theorem holds_fzero : HoldsAny (.func (.func 218) #[] #[]) isZ := by
  intro v w h0 h1
  have hn := neq_fn
  go_enter_defers Tryz.func275, Tryz.ntmps275
  go_wp2_with fail
  refine (fzero_is v _).mono ?_
  rintro e w1 ⟨rfl, rfl⟩
  have HQ := Lib.hid (show isZ v = (v == 0) from rfl)
  generalize hq : (v == 0) = q at *
  clear hq
  go_wp2
  refine leaves_cons (f := 284) (args := #[]) (by simp) (by simp [go_sem]) ?_
  refine (rec_idle _).mono ?_
  rintro e u' w'' ⟨rfl, rfl, rfl⟩
  exact ⟨_, results_tmp rfl _ _ _, by rw [HQ.out]; rfl, Only.refl _ _⟩

/-- Waiting for the readers. -/
def LS.awaitQ (r : LS) : LS := if (r.stepR 1 isZ).done then ((r.wait 1 isZ).noteIf (r.stepR 1 isZ).seen 4).fin true else (r.wait 1 isZ).noteIf (r.stepR 1 isZ).seen 4
section
variable {B g0 g1 g2 g3 : Nat} {p A : Option Addr} {cp : Nat} {nv : Value} {r : LS} {w : World}
theorem await_clo (S : St w B p A cp [(g0, 99, #[Value.pointer (some ⟨B, 0, none⟩)])] 900 r w) (hx : Words r.xs) : Calls Tryz.prog 217 #[.pointer (some ⟨g0, 0, none⟩)] w (Done B p A cp w (.tuple #[]) r.awaitQ) := by
  generalize hsn : (r.stepR 1 isZ).seen = sn
  generalize hdn : (r.stepR 1 isZ).done = dn
  obtain ⟨r1, hr1⟩ : ∃ r1, r.wait 1 isZ = r1 := ⟨_, rfl⟩
  have H := Lib.hid (And.intro hsn (And.intro hdn (And.intro hr1 hx)))
  have b0 := S.c0
  clear hsn hdn hr1 hx
  go_enter Tryz.func217, Tryz.ntmps217
  go_wp2_with fail
  clear b0
  refine sWait S holds_fzero.at H.out.2.2.2 H.out.1 H.out.2.1 H.out.2.2.1 fun w S b0 => ?_
  cases sn
  all_goals cases dn
  · skip
    go_wp2
    go_returns
    exact S.fit (by unfold LS.awaitQ; rw [H.out.1, H.out.2.1, H.out.2.2.1]; rfl)
  · skip
    go_wp2_with fail
    refine sEnd S fun w S b0 => ?_
    go_wp2
    go_returns
    exact S.fit (by unfold LS.awaitQ; rw [H.out.1, H.out.2.1, H.out.2.2.1]; rfl)
  · skip
    go_wp2_with fail
    refine sNote S fun w S b0 => ?_
    go_wp2
    go_returns
    exact S.fit (by unfold LS.awaitQ; rw [H.out.1, H.out.2.1, H.out.2.2.1]; rfl)
  · skip
    go_wp2_with fail
    refine sNote S fun w S b0 => ?_
    go_wp2_with fail
    refine sEnd S fun w S b0 => ?_
    go_wp2
    go_returns
    exact S.fit (by unfold LS.awaitQ; rw [H.out.1, H.out.2.1, H.out.2.2.1]; rfl)
theorem await_make (h : RunP w B p A cp nv r) (hl : r.ns.length ≤ 900) (hx : Words r.xs) : Calls Tryz.prog 130 #[Value.pointer (some ⟨B, 0, none⟩)] w (Clo 217 B p A cp r.awaitQ w) := by
  obtain ⟨e, S⟩ := mk1 h hl
  have HC := Lib.hid (await_clo S hx)
  clear S h hl hx
  go_enter Tryz.func130, Tryz.ntmps130
  go_wp2
  go_ret
  exact ⟨_, rfl, e, HC.out⟩

-- weighing
/-- What weighing leaves. -/
def LS.qWeigh (r : LS) (own : Int) (T : LS → LS) : LS := if wordAt r.xs 1 = own then T r.qCount else (r.qCount.note 5 0).go 6
theorem fq_aside_f : Aside 1 := ⟨by decide, by decide, by decide⟩
/-- What follows. -/
structure ThenQ (FF : FuncId) (T : LS → LS) : Prop where
  of : ∀ {B g0 : Nat} {p A : Option Addr} {cp : Nat} {r : LS} {w : World} (S : St w B p A cp [(g0, 99, #[Value.pointer (some ⟨B, 0, none⟩)])] 900 r w), Calls Tryz.prog FF #[.pointer (some ⟨g0, 0, none⟩)] w (Done B p A cp w (.tuple #[]) (T r))
set_option maxHeartbeats 1000000 in
theorem fweigh_clo (FF : FuncId) (hcf : Enters1 FF) (T : LS → LS) (ht : ThenQ FF T) (own : Int) (h1 : Row w g1 22 #[.int .u32 own]) (h2 : ¬ At A g1)
    (S : St w B p A cp [(g0, 99, #[Value.pointer (some ⟨B, 0, none⟩)]), (g2, 1, #[.func (.func FF) #[] #[.pointer (some ⟨g3, 0, none⟩)]]), (g3, 99, #[Value.pointer (some ⟨B, 0, none⟩)])] 900 r w) :
    Calls Tryz.prog 221 #[.pointer (some ⟨g0, 0, none⟩), .pointer (some ⟨g1, 0, none⟩), .pointer (some ⟨g2, 0, none⟩)] w (Done B p A cp w (.tuple #[]) (r.qWeigh own T)) := by
  have HT := Lib.hid ht
  have HCF := Lib.hid hcf
  have HB := Lib.hid h1
  have hb : ∀ w', Only (TurnB B A) w w' → Row w' g1 22 #[.int .u32 own] := fun w' ho => HB.out.only ho (fun e => by
    obtain ⟨nv, hP⟩ := S.run
    rcases e with e | e
    · exact row_ne HB.out hP.row (by decide) e
    · exact h2 e)
  have HW := Lib.hid hb
  clear ht hcf h1 h2 hb HB
  have b0 := S.c0
  go_enter Tryz.func221, Tryz.ntmps221
  go_upto_region 0 with (fail)
  refine wp_region_phase (n := 7) 6 (fun w => w.cell? ⟨g0, 0, none⟩ = some (Value.pointer (some ⟨B, 0, none⟩))) rfl (by kernel_rfl) b0 (fun hHeld => ?_)
  replace S := S.drew
  clear b0
  generalize w.drew = w1 at *
  refine zt 0 rfl ?_
  refine zt 1 rfl ?_
  refine mpc 2 rfl (by kernel_rfl) (by rfl) (fun K hK => ?_)
  go_simp
  refine sLoad S fun w2 S b0 => ?_
  refine hK.out _ _ (.inr b0) ?_
  clear hK K hHeld
  refine za 3 rfl ?_
  refine za 4 rfl ?_
  refine za 5 rfl ?_
  have c6 := S.c6
  have f6 := S.froz 6
  refine mpc 6 rfl (by kernel_rfl) (by rfl) (fun K hK => ?_)
  go_simp
  refine hK.out _ _ (.inl (by kernel_rfl)) ?_
  clear hK K c6 f6 b0
  replace S := S.setA (wordAt r.xs 1)
  generalize w2.setCell ⟨B, 6, none⟩ (.int .u32 (wordAt r.xs 1)) = w3 at *
  refine wpAnyP_done (by kernel_rfl) ?_ _
  have b0 := S.c0
  have b1 := (HW.out _ S.only).one
  clear b0
  go_upto_region 1 with (fail)
  refine wp_region_phase (n := 7) 6 (fun w => w.cell? ⟨g0, 0, none⟩ = some (Value.pointer (some ⟨B, 0, none⟩)) ∧ w.cell? ⟨B, 6, none⟩ = some (.int .u32 (wordAt r.xs 1)) ∧ w.cell? ⟨g1, 0, none⟩ = some (.int .u32 own)) rfl (by kernel_rfl) ⟨S.c0, S.c6, b1⟩ (fun hHeld => ?_)
  replace S := S.drew
  clear b1
  generalize w3.drew = w4 at *
  refine zt 0 rfl ?_
  refine za 1 rfl ?_
  refine za 2 rfl ?_
  refine za 3 rfl ?_
  refine zt 4 rfl ?_
  refine zt 5 rfl ?_
  refine mpc 6 rfl (by kernel_rfl) (by rfl) (fun K hK => ?_)
  go_simp
  obtain ⟨z, hz⟩ : ∃ z, (wordAt r.xs 1 == own) = z := ⟨_, rfl⟩
  rw [hz]
  have H := Lib.hid hz
  clear hz
  refine hK.out _ _ (.inl (by kernel_rfl)) ?_
  clear hK K hHeld HW
  refine wpAnyP_done (by kernel_rfl) ?_ _
  have b0 := S.c0
  cases z
  · skip
    go_wp2_with fail
    refine sNote S fun w S b0 => ?_
    go_wp2_with fail
    refine sGo S fun w S b0 => ?_
    go_wp2
    go_returns
    exact S.fit (by unfold LS.qWeigh; exact if_neg (beq_eq_false_iff_ne.1 H.out))
  · have b2 := S.rows.c1
    have hcf : ∀ (args : Array Value) (w : World), (callFunc FF args).run Tryz.prog w = .ok (.enter FF args) w := HCF.out
    go_wp2_with fail
    clear b2 hcf
    refine S.call0 (fun nv h => HT.out.of (st_new h S.len ((rows_nil _).cons (S.rows _ (.tail _ (.tail _ (.head _))))) (asides_cons aside_p asides_nil))) (Nat.le_refl _) fun w S b0 => ?_
    go_wp2
    go_returns
    exact S.fit (by unfold LS.qWeigh; exact if_pos (beq_iff_eq.1 H.out))
theorem fweigh_make (FF : FuncId) (hcf : Enters1 FF) (T : LS → LS) (ht : ThenQ FF T) (own : Int) {g3 : Nat} (h : RunP w B p A cp nv r) (hl : r.ns.length ≤ 900) (hb : Row w g3 99 #[Value.pointer (some ⟨B, 0, none⟩)]) :
    Calls Tryz.prog 132 #[Value.pointer (some ⟨B, 0, none⟩), .int .u32 own, .func (.func FF) #[] #[.pointer (some ⟨g3, 0, none⟩)]] w (Clo 221 B p A cp (r.qWeigh own T) w) := by
  have e0 := (((Only.refl Nil w).alloc (.cells #[Value.pointer (some ⟨B, 0, none⟩)] 99)).alloc (.cells #[.int .u32 own] 22)).alloc (.cells #[.func (.func FF) #[] #[.pointer (some ⟨g3, 0, none⟩)]] 1)
  have HC := Lib.hid (fweigh_clo FF hcf T ht own ((Row.new2 w _ _ _).alloc _) (fun e => by have := h.memo.lt _ (.inr e); omega)
    (st_new (h.keep e0) hl (((rows_nil _).cons (hb.only e0 id)).cons (Row.at (k := w.heap.size + 1 + 1) (by simp)) |>.cons (((Row.new w _ _).alloc _).alloc _)) (asides_cons aside_p (asides_cons fq_aside_f (asides_cons aside_p asides_nil)))))
  have HE := Lib.hid e0
  clear h hl hb e0 hcf ht
  go_enter Tryz.func132, Tryz.ntmps132
  go_wp2
  go_ret
  exact ⟨_, rfl, HE.out, HC.out⟩
end
end Go.Proofs.YtigdbokfapedcaaGreat
/- fq's lines, in plain words: where there is none. -/
set_option linter.unusedVariables false
set_option linter.unusedSimpArgs false
namespace Go.Proofs.YtigdbokfapedcaaGreat
open Go.RowKit
theorem qGive_no {r : LS} {a : Int} {ok : Bool} {l : List Int} (h0 : r.line ≠ a) (h1 : r.line ≠ a + 1) (h2 : r.line ≠ a + 2) (h3 : r.line ≠ a + 3) : r.qGive a ok l = r :=
  qGive_of (by unfold LS.mxGive; rw [if_neg h0, if_neg h1, if_neg h2, if_neg h3]) (d := false)
theorem fq_is0 {r : LS} (h : fqCase r.op r.line = 0) : r.fq = r := by unfold LS.fq; rw [h]; rfl
end Go.Proofs.YtigdbokfapedcaaGreat
