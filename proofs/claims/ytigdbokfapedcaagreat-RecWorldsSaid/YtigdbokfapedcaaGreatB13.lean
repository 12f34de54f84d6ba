/- LineWt, LineN, RowsL, Boxes, KeepC, Clo, St, StStep, Ahead, LineQS, DiffM, DiffGet, Whats, Whats1, PlaceNB, LineQSw. -/
import Derived.Test.YtigdbokfapedcaaGreatProg
import Derived.IntWalk
import Derived.Laws.BitsAllLaws
import Derived.Laws.BitsLemmas
import Derived.Laws.Shifts
import Derived.Test.YtigdbokfapedcaaGreatB12
import Derived.Test.YtigdbokfapedcaaGreatB6
import Derived.Test.YtigdbokfapedcaaGreatB1
import Derived.Test.YtigdbokfapedcaaGreatB10
import Derived.Test.YtigdbokfapedcaaGreatB3
import Derived.Test.YtigdbokfapedcaaGreatB9
import Derived.Test.YtigdbokfapedcaaGreatB8
import Derived.Test.YtigdbokfapedcaaGreatB2
/- A run's Wait with a function that keeps nothing, the program's, whole. -/
set_option linter.unusedVariables false
set_option linter.unusedSimpArgs false
namespace Go.Proofs.YtigdbokfapedcaaGreat
open Go.RowKit

theorem wait_run (B : Nat) (p A : Option Addr) (cp : Nat) (nv : Value) (r : LS) (c : Int) (F : Fn) (f1 f2 : Array Value) (q : Int → Bool) (w : World) (h : RunP w B p A cp nv r) (hf : Holds A w (.func F f1 f2) q) (hx : Words r.xs) :
    Calls Tryz.prog 102 #[.pointer (some ⟨B, 0, none⟩), .int .i64 c, .func F f1 f2] w (Done B p A cp w (.tuple #[.bool (r.stepR c q).seen, .bool (r.stepR c q).done]) (r.wait c q)) := by
  have e := waitM_run false B p A cp nv r c F f1 f2 q w h (fun v w' ho hr h0 h1 => (hf v w' ho h0 h1).mono (fun e w2 hh => ⟨hh.1, hh.2.mono (fun _ _ h => h.elim), by
    have hw := hr.only hh.2 id
    generalize q v = b at *
    cases b <;> exact hw⟩)) hx
  rwa [show r.waitM false c q = r.wait c q by
    unfold LS.waitM LS.wait LS.kept LS.kw
    generalize r.stepR c q = t
    cases t.seen <;> rfl] at e
end Go.Proofs.YtigdbokfapedcaaGreat
/- A run's Note, the program's. -/
set_option linter.unusedVariables false
set_option linter.unusedSimpArgs false
namespace Go.Proofs.YtigdbokfapedcaaGreat
open Go.RowKit

theorem wp_append_cut {o : Oper} {a : Act} {K : Act → World → Prop} {Q : Exit → Act → World → Prop} (s x : Operand) (ho : o.op = .call { callee := .builtin .append, args := #[s, x], argTypes := #[29, 29] })
    (v : Value) (zs : List Nt) (w : World) (g : Nat) (n : Nt) (hs : a.eval s = cutV v) (hx : a.eval x = .slice (some ⟨g, 0, none⟩) 1 1) (hown : OwnN 0 w v zs) (hrow : Row w g 59 #[.int .i64 n.t, .int .i64 n.w, .int .i64 n.o, .int .i64 n.a]) (h1 : zs.length ≤ 1000)
    (h : ∀ A' n' c' w', OwnN 0 w' (.slice A' n' c') (zs ++ [n]) → Only Nil w w' → K (a.put o.dst (.slice A' n' c')) w') : o.wp Tryz.prog a w K Q := by
  obtain ⟨v', w', hr, h2, h3⟩ := run_append_cut o.type v zs w g n hown hrow h1
  unfold Oper.wp execOp
  simp only [ho, resolve, invoke, builtin, Sem.run_bind, Sem.run_pure, Result.andThen_ok, List.map_toArray, List.map_cons, List.map_nil, hs, hx, hr]
  obtain ⟨A', c', rfl, _⟩ := own_form h2
  exact h _ _ _ w' h2 h3

theorem RunP.setNotes {w : World} {B : Nat} {p A : Option Addr} {cp : Nat} {nv v : Value} {r : LS} {zs : List Nt} (h : RunP w B p A cp nv r) (hn : OwnN 0 w v zs) : RunP (w.setCell ⟨B, 19, none⟩ v) B p A cp v { r with ns := zs } := by
  have ho := (Only.refl (· = B) w).setCell (p := ⟨B, 19, none⟩) (.inr rfl) v
  refine ⟨h.row.set 19 v, own_only hn ho (fun i hi => ?_), h.memo.far ho (fun j hj => h.far hj)⟩
  rintro rfl
  obtain ⟨cur, hc⟩ := ownN_tag hn hi
  exact absurd (h.row.same hc).1 (by decide)

set_option maxRecDepth 100000 in
set_option maxHeartbeats 1000000 in
theorem note_run (B : Nat) (p A : Option Addr) (cp : Nat) (nv : Value) (r : LS) (what arg : Int) (w : World) (h : RunP w B p A cp nv r) (hl : r.ns.length ≤ 1000) :
    Calls Tryz.prog 63 #[.pointer (some ⟨B, 0, none⟩), .int .i64 what, .int .i64 arg] w (Done B p A cp w (.tuple #[]) (r.note what arg)) := by
  have m19 : w.cell? ⟨B, 19, none⟩ = some nv := h.row.cell_ (i := 19) rfl
  have m3 : w.cell? ⟨B, 3, none⟩ = some (.int .i64 r.task) := h.row.cell_ (i := 3) rfl
  have HP := Lib.hid h
  have HL := Lib.hid hl
  clear h hl
  go_enter Tryz.func63, Tryz.ntmps63
  go_upto_region 1 with (fail)
  refine wp_region_phase (n := 18) 14 (fun w => w.cell? ⟨B, 19, none⟩ = some nv ∧ w.cell? ⟨B, 3, none⟩ = some (.int .i64 r.task)) rfl (by kernel_rfl) ⟨m19, m3⟩ (fun hHeld => ?_)
  have HP1 := Lib.hid (HP.out.keep (Only.refl Nil w).drew)
  have HO1 := Lib.hid ((Only.refl (TurnB B A) w).drew)
  clear m19 m3 HP
  generalize w.drew = w2 at *
  refine za 0 rfl ?_
  refine za 1 rfl ?_
  refine za 2 rfl ?_
  refine za 3 rfl ?_
  refine zt 4 rfl ?_
  refine za 6 rfl ?_
  refine za 7 rfl ?_
  refine za 8 rfl ?_
  refine zt 9 rfl ?_
  refine za 10 rfl ?_
  refine za 11 rfl ?_
  refine za 12 rfl ?_
  refine pd_5_13 rfl rfl (by kernel_rfl) (by rfl) (fun K hK => ?_) (by rfl) (fun K hK => ?_)
  · go_simp
    refine (clip_any nv r.ns _ HP1.out.notes).mono ?_
    rintro e w4 ⟨rfl, rfl⟩
    refine hK.out _ _ (.inr hHeld) ?_
    clear hK K

    refine mpc 13 rfl (by kernel_rfl) (by rfl) (fun K hK => ?_)
    go_simp
    have HP2 := Lib.hid (HP1.out.keep ((Only.refl Nil w2).alloc (.cells #[.int .i64 r.task, .int .i64 what, .int .i64 0, .int .i64 arg] 59)))
    have HO2 := Lib.hid (HO1.out.alloc (.cells #[.int .i64 r.task, .int .i64 what, .int .i64 0, .int .i64 arg] 59))
    have HN := Lib.hid (Row.new w2 59 #[.int .i64 r.task, .int .i64 what, .int .i64 0, .int .i64 arg])
    have hHeld2 : (w2.alloc (.cells #[.int .i64 r.task, .int .i64 what, .int .i64 0, .int .i64 arg] 59)).cell? ⟨B, 19, none⟩ = some nv ∧ (w2.alloc (.cells #[.int .i64 r.task, .int .i64 what, .int .i64 0, .int .i64 arg] 59)).cell? ⟨B, 3, none⟩ = some (.int .i64 r.task) := ⟨HP2.out.row.cell_ (i := 19) rfl, HP2.out.row.cell_ (i := 3) rfl⟩
    refine hK.out _ _ (.inr hHeld2) ?_
    clear hK K hHeld HP1 HO1
    generalize w2.alloc (.cells #[.int .i64 r.task, .int .i64 what, .int .i64 0, .int .i64 arg] 59) = w3 at *
    generalize w2.heap.size = g at *

    refine mpc 14 rfl (by kernel_rfl) (by rfl) (fun K hK => ?_)
    refine wp_append_cut (.tmp 13) (.tmp 21) rfl nv r.ns _ g ⟨r.task, what, 0, arg⟩ (by rfl) (by rfl) HP2.out.notes HN.out HL.out (fun A9 n9 c9 w5 hown hO => ?_)
    have HP3 := Lib.hid (HP2.out.keep hO)
    have HO3 := Lib.hid (HO2.out.trans (hO.mono (T := TurnB B A) (fun _ _ h => h.elim)))
    have HV := Lib.hid hown
    refine hK.out _ _ (.inl (by kernel_rfl)) ?_
    clear hK K hHeld2 hO hown HP2 HO2 HN

    refine za 15 rfl ?_
    refine za 16 rfl ?_
    have c19 : w5.cell? ⟨B, 19, none⟩ = some nv := HP3.out.row.cell_ (i := 19) rfl
    have f19 : w5.frozen? ⟨B, 19, none⟩ = false := HP3.out.row.frozen 19
    refine mpc 17 rfl (by kernel_rfl) (by rfl) (fun K hK => ?_)
    go_simp
    refine hK.out _ _ (.inl (by kernel_rfl)) ?_
    clear hK K c19 f19

    refine wpAnyP_done (by kernel_rfl) ?_ _
    go_wp2
    go_returns
    exact ⟨rfl, HO3.out.setCell (p := ⟨B, 19, none⟩) (.inr (.inl rfl)) _, _, HP3.out.setNotes HV.out⟩
  · go_simp
    have HP2 := Lib.hid (HP1.out.keep ((Only.refl Nil w2).alloc (.cells #[.int .i64 r.task, .int .i64 what, .int .i64 0, .int .i64 arg] 59)))
    have HO2 := Lib.hid (HO1.out.alloc (.cells #[.int .i64 r.task, .int .i64 what, .int .i64 0, .int .i64 arg] 59))
    have HN := Lib.hid (Row.new w2 59 #[.int .i64 r.task, .int .i64 what, .int .i64 0, .int .i64 arg])
    have hHeld2 : (w2.alloc (.cells #[.int .i64 r.task, .int .i64 what, .int .i64 0, .int .i64 arg] 59)).cell? ⟨B, 19, none⟩ = some nv ∧ (w2.alloc (.cells #[.int .i64 r.task, .int .i64 what, .int .i64 0, .int .i64 arg] 59)).cell? ⟨B, 3, none⟩ = some (.int .i64 r.task) := ⟨HP2.out.row.cell_ (i := 19) rfl, HP2.out.row.cell_ (i := 3) rfl⟩
    refine hK.out _ _ (.inr hHeld2) ?_
    clear hK K hHeld HP1 HO1
    generalize w2.alloc (.cells #[.int .i64 r.task, .int .i64 what, .int .i64 0, .int .i64 arg] 59) = w3 at *
    generalize w2.heap.size = g at *

    refine mpc 5 rfl (by kernel_rfl) (by rfl) (fun K hK => ?_)
    go_simp
    refine (clip_any nv r.ns _ HP2.out.notes).mono ?_
    rintro e w4 ⟨rfl, rfl⟩
    refine hK.out _ _ (.inr hHeld2) ?_
    clear hK K

    refine mpc 14 rfl (by kernel_rfl) (by rfl) (fun K hK => ?_)
    refine wp_append_cut (.tmp 13) (.tmp 21) rfl nv r.ns _ g ⟨r.task, what, 0, arg⟩ (by rfl) (by rfl) HP2.out.notes HN.out HL.out (fun A9 n9 c9 w5 hown hO => ?_)
    have HP3 := Lib.hid (HP2.out.keep hO)
    have HO3 := Lib.hid (HO2.out.trans (hO.mono (T := TurnB B A) (fun _ _ h => h.elim)))
    have HV := Lib.hid hown
    refine hK.out _ _ (.inl (by kernel_rfl)) ?_
    clear hK K hHeld2 hO hown HP2 HO2 HN

    refine za 15 rfl ?_
    refine za 16 rfl ?_
    have c19 : w5.cell? ⟨B, 19, none⟩ = some nv := HP3.out.row.cell_ (i := 19) rfl
    have f19 : w5.frozen? ⟨B, 19, none⟩ = false := HP3.out.row.frozen 19
    refine mpc 17 rfl (by kernel_rfl) (by rfl) (fun K hK => ?_)
    go_simp
    refine hK.out _ _ (.inl (by kernel_rfl)) ?_
    clear hK K c19 f19

    refine wpAnyP_done (by kernel_rfl) ?_ _
    go_wp2
    go_returns
    exact ⟨rfl, HO3.out.setCell (p := ⟨B, 19, none⟩) (.inr (.inl rfl)) _, _, HP3.out.setNotes HV.out⟩
end Go.Proofs.YtigdbokfapedcaaGreat
/- Blocks that are known whole. -/
set_option linter.unusedVariables false
set_option linter.unusedSimpArgs false
namespace Go.Proofs.YtigdbokfapedcaaGreat
open Go.RowKit

/-- Blocks that are known whole. -/
def RowsL (w : World) (L : List (Nat × TypeId × Array Value)) : Prop := ∀ x ∈ L, Row w x.1 x.2.1 x.2.2

theorem RowsL.keep {w w' : World} {L : List (Nat × TypeId × Array Value)} (h : RowsL w L) (ho : Only Nil w w') : RowsL w' L := fun x hx => (h x hx).only ho id

theorem RowsL.cons {w : World} {L : List (Nat × TypeId × Array Value)} {g : Nat} {t : TypeId} {cs : Array Value} (h : RowsL w L) (hr : Row w g t cs) : RowsL w ((g, t, cs) :: L) := fun x hx => by
  rcases List.mem_cons.1 hx with rfl | hx
  · exact hr
  · exact h x hx
section
variable {w : World} {L : List (Nat × TypeId × Array Value)} {g g1 g2 g3 : Nat} {t t1 t2 t3 : TypeId} {v v1 v2 v3 : Value}
/-- The cell of the first box, of the second, .. -/
theorem RowsL.c0 (h : RowsL w ((g, t, #[v]) :: L)) : w.cell? ⟨g, 0, none⟩ = some v := (h _ (.head _)).one
theorem RowsL.c1 (h : RowsL w ((g1, t1, #[v1]) :: (g, t, #[v]) :: L)) : w.cell? ⟨g, 0, none⟩ = some v := (h _ (.tail _ (.head _))).one
theorem RowsL.c2 (h : RowsL w ((g1, t1, #[v1]) :: (g2, t2, #[v2]) :: (g, t, #[v]) :: L)) : w.cell? ⟨g, 0, none⟩ = some v := (h _ (.tail _ (.tail _ (.head _)))).one
theorem RowsL.c3 (h : RowsL w ((g1, t1, #[v1]) :: (g2, t2, #[v2]) :: (g3, t3, #[v3]) :: (g, t, #[v]) :: L)) : w.cell? ⟨g, 0, none⟩ = some v := (h _ (.tail _ (.tail _ (.tail _ (.head _))))).one
end
end Go.Proofs.YtigdbokfapedcaaGreat
/- Blocks beside a run, the program's: a call of the run's leaves them. -/
set_option linter.unusedVariables false
set_option linter.unusedSimpArgs false
namespace Go.Proofs.YtigdbokfapedcaaGreat
open Go.RowKit

/-- Types of blocks that a run's calls leave alone. -/
def Aside (t : TypeId) : Prop := t ≠ 102 ∧ t ≠ 93 ∧ t ≠ 22
theorem RunP.aside {w w' : World} {B : Nat} {p A : Option Addr} {cp : Nat} {nv : Value} {r : LS} {g : Nat} {t : TypeId} {cs : Array Value} (h : RunP w B p A cp nv r) (hg : Row w g t cs) (ho : Only (TurnB B A) w w') (ht : Aside t) : Row w' g t cs :=
  hg.only ho (fun e => by
    rcases e with e | e
    · exact row_ne hg h.row ht.1 e
    · exact memo_not h.memo hg ht.2.1 ht.2.2 (.inr e))
theorem RowsL.turn {w w' : World} {B : Nat} {p A : Option Addr} {cp : Nat} {nv : Value} {r : LS} {L : List (Nat × TypeId × Array Value)} (h : RowsL w L) (hp : RunP w B p A cp nv r) (ho : Only (TurnB B A) w w') (ht : ∀ x ∈ L, Aside x.2.1) : RowsL w' L := fun x hx => hp.aside (h x hx) ho (ht x hx)
end Go.Proofs.YtigdbokfapedcaaGreat
/- Stores of what lines keep. -/
set_option linter.unusedVariables false
set_option linter.unusedSimpArgs false
namespace Go.Proofs.YtigdbokfapedcaaGreat
open Go.RowKit

section
variable {w : World} {B : Nat} {p A : Option Addr} {cp : Nat} {nv : Value} {r : LS}
theorem RunP.setA (h : RunP w B p A cp nv r) (v : Int) : RunP (w.setCell ⟨B, 6, none⟩ (.int .u32 v)) B p A cp nv (r.keepA v) :=
  h.turn ((Only.refl (· = B) w).setCell (p := ⟨B, 6, none⟩) (.inr rfl) _) (h.row.set 6 (.int .u32 v)) rfl rfl
theorem RunP.setB (h : RunP w B p A cp nv r) (v : Int) : RunP (w.setCell ⟨B, 7, none⟩ (.int .u32 v)) B p A cp nv (r.keepB v) :=
  h.turn ((Only.refl (· = B) w).setCell (p := ⟨B, 7, none⟩) (.inr rfl) _) (h.row.set 7 (.int .u32 v)) rfl rfl
end
theorem aside_p : Aside 99 := ⟨by decide, by decide, by decide⟩
theorem aside_i : Aside 3 := ⟨by decide, by decide, by decide⟩
end Go.Proofs.YtigdbokfapedcaaGreat
/- What a lock's stepOf comes back with: a closure, or nil. -/
set_option linter.unusedVariables false
set_option linter.unusedSimpArgs false
namespace Go.Proofs.YtigdbokfapedcaaGreat
open Go.RowKit

/-- What makes a step: a closure of the function F, by which the run becomes r'. -/
def Clo (F : Nat) (B : Nat) (p A : Option Addr) (cp : Nat) (r' : LS) (w : World) (e : Ending) (w' : World) : Prop :=
  ∃ caps, e = .returned (.func (.func F) #[] caps) ∧ Only Nil w w' ∧ Calls Tryz.prog F caps w' (Done B p A cp w' (.tuple #[]) r')
/-- A closure of one of these functions, by which the run becomes r'; or nil, and nothing is to be done. -/
def ClS (FS : List Nat) (B : Nat) (p A : Option Addr) (cp : Nat) (r r' : LS) (w : World) (e : Ending) (w' : World) : Prop :=
  (∃ F ∈ FS, ∃ caps, e = .returned (.func (.func F) #[] caps) ∧ Only Nil w w' ∧ Calls Tryz.prog F caps w' (Done B p A cp w' (.tuple #[]) r')) ∨ (e = .returned .nilFunc ∧ Only Nil w w' ∧ r' = r)
theorem aside_1 {g0 B : Nat} : ∀ x ∈ [(g0, 99, #[Value.pointer (some ⟨B, 0, none⟩)])], Aside x.2.1 := by
  intro x hx
  simp only [List.mem_cons, List.not_mem_nil, or_false] at hx
  rcases hx with rfl
  exact aside_p
theorem aside_2 {g0 B g1 : Nat} {v : Value} : ∀ x ∈ [(g0, 99, #[Value.pointer (some ⟨B, 0, none⟩)]), (g1, 3, #[v])], Aside x.2.1 := by
  intro x hx
  simp only [List.mem_cons, List.not_mem_nil, or_false] at hx
  rcases hx with rfl | rfl
  · exact aside_p
  · exact aside_i
set_option maxRecDepth 100000 in
theorem neq_nilC (w : World) : (binOp .neq 1 .nilFunc .nilFunc).run Tryz.prog w = .ok (.bool false) w := by
  first | rfl | kernel_rfl
set_option maxRecDepth 100000 in
theorem neq_fnC (f : Fn) (first cap : Array Value) (w : World) : (binOp .neq 1 (.func f first cap) .nilFunc).run Tryz.prog w = .ok (.bool true) w := by
  first | rfl | kernel_rfl
end Go.Proofs.YtigdbokfapedcaaGreat
/- A run within a step, the program's: it, the boxes beside it, and what was turned since the step began, in one; the run's calls as rules over that. -/
set_option linter.unusedVariables false
set_option linter.unusedSimpArgs false
namespace Go.Proofs.YtigdbokfapedcaaGreat
open Go.RowKit

theorem ite_t {α : Sort _} {b : Bool} {x y : α} (h : b = true) : (if b = true then x else y) = x := if_pos h
theorem ite_f {α : Sort _} {b : Bool} {x y : α} (h : b = false) : (if b = true then x else y) = y := if_neg (by rw [h]; decide)
/-- A call of this function enters it: no function from outside. -/
def Enters1 (f : FuncId) : Prop := ∀ (args : Array Value) (w : World), (callFunc f args).run Tryz.prog w = .ok (.enter f args) w
/-- A call that comes back with the closure of a line. -/
theorem arm {FS : List Nat} {F : Nat} {FM : FuncId} {args : Array Value} {B : Nat} {p A : Option Addr} {cp : Nat} {r r' rt : LS} {w0 w : World} {Q : Ending → World → Prop} (h : Calls Tryz.prog FM args w (Clo F B p A cp rt w)) (ho : Only Nil w0 w) (he : r' = rt) (hF : F ∈ FS)
    (k : ∀ caps w', Hid (ClS FS B p A cp r r' w0 (.returned (.func (.func F) #[] caps)) w') → Q (.returned (.func (.func F) #[] caps)) w') : Calls Tryz.prog FM args w Q := by
  refine h.mono ?_
  rintro e w' ⟨caps, rfl, hO, hC⟩
  exact k caps w' (Lib.hid (.inl ⟨F, hF, caps, rfl, ho.trans hO, he ▸ hC⟩))

structure St (w0 : World) (B : Nat) (p A : Option Addr) (cp : Nat) (L : List (Nat × TypeId × Array Value)) (m : Nat) (r : LS) (w : World) : Prop where
  only : Only (TurnB B A) w0 w
  rows : RowsL w L
  aside : ∀ x ∈ L, Aside x.2.1
  run : ∃ nv, RunP w B p A cp nv r
  len : r.ns.length ≤ m

section
variable {w0 w w' : World} {B : Nat} {p A : Option Addr} {cp : Nat} {L : List (Nat × TypeId × Array Value)} {m m' : Nat} {r r' : LS} {F : FuncId} {args : Array Value} {v v0 : Value} {g : Nat} {t : TypeId} {nv : Value} {Q : Ending → World → Prop}
theorem St.done (S : St w0 B p A cp L m r w) : Done B p A cp w0 v r (.returned v) w := ⟨rfl, S.only, S.run⟩
theorem St.fit (S : St w0 B p A cp L m r w) (h : r' = r) : Done B p A cp w0 v r' (.returned v) w := h ▸ S.done
theorem St.keep (S : St w0 B p A cp L m r w) (ho : Only Nil w w') : St w0 B p A cp L m r w' :=
  ⟨S.only.trans (ho.mono (fun _ _ h => h.elim)), S.rows.keep ho, S.aside, S.run.imp fun _ h => h.keep ho, S.len⟩
theorem St.drew (S : St w0 B p A cp L m r w) : St w0 B p A cp L m r w.drew := S.keep (Only.refl Nil w).drew
theorem St.drewd (S : St w0 B p A cp L m r w) (h : Drew w w') : St w0 B p A cp L m r w' := S.keep h.only
theorem St.c0 (S : St w0 B p A cp ((g, t, #[v]) :: L) m r w) : w.cell? ⟨g, 0, none⟩ = some v := S.rows.c0
theorem St.at (S : St w0 B p A cp L m r w) (i : Nat) (h : ∀ nv, (r.cells (.pointer p) nv)[i]? = some v) : w.cell? ⟨B, i, none⟩ = some v := by
  obtain ⟨nv, hp⟩ := S.run
  exact hp.row.cell_ (h nv)
theorem St.c6 (S : St w0 B p A cp L m r w) : w.cell? ⟨B, 6, none⟩ = some (.int .u32 r.a) := S.at 6 fun _ => rfl
theorem St.c7 (S : St w0 B p A cp L m r w) : w.cell? ⟨B, 7, none⟩ = some (.int .u32 r.b) := S.at 7 fun _ => rfl
theorem St.froz (S : St w0 B p A cp L m r w) (i : Nat) : w.frozen? ⟨B, i, none⟩ = false := by
  obtain ⟨nv, hp⟩ := S.run
  exact hp.row.frozen i
theorem St.turned (S : St w0 B p A cp L m r w) (ho : Only (TurnB B A) w w') (hr : ∃ nv, RunP w' B p A cp nv r') (hm : r'.ns.length ≤ m') : St w0 B p A cp L m' r' w' := by
  obtain ⟨nv, hp⟩ := S.run
  exact ⟨S.only.trans ho, S.rows.turn hp ho S.aside, S.aside, hr, hm⟩
theorem St.setA (S : St w0 B p A cp L m r w) (x : Int) : St w0 B p A cp L m (r.keepA x) (w.setCell ⟨B, 6, none⟩ (.int .u32 x)) :=
  S.turned ((Only.refl (TurnB B A) w).setCell (p := ⟨B, 6, none⟩) (.inr (.inl rfl)) _) (S.run.imp fun _ h => h.setA x) S.len
theorem St.setB (S : St w0 B p A cp L m r w) (x : Int) : St w0 B p A cp L m (r.keepB x) (w.setCell ⟨B, 7, none⟩ (.int .u32 x)) :=
  S.turned ((Only.refl (TurnB B A) w).setCell (p := ⟨B, 7, none⟩) (.inr (.inl rfl)) _) (S.run.imp fun _ h => h.setB x) S.len
/-- A call that comes back with nothing, its line done. -/
theorem run1 {r' rt : LS} (h : Calls Tryz.prog F args w (Done B p A cp w0 v rt)) (he : r' = rt) (k : ∀ w', Hid (Done B p A cp w0 v r' (.returned v) w') → Q (.returned v) w') : Calls Tryz.prog F args w Q := by
  refine h.mono ?_
  rintro e w' ⟨rfl, hO, hr⟩
  exact k w' (Lib.hid ⟨rfl, hO, he ▸ hr⟩)
/-- A call by its contract. -/
theorem St.call (S : St w0 B p A cp L m r w) (h : ∀ nv, RunP w B p A cp nv r → Calls Tryz.prog F args w (Done B p A cp w v r')) (hm : r'.ns.length ≤ m') (k : ∀ w', St w0 B p A cp L m' r' w' → Q (.returned v) w') : Calls Tryz.prog F args w Q := by
  obtain ⟨nv, hp⟩ := S.run
  refine (h nv hp).mono ?_
  rintro e w' ⟨rfl, hO, hr⟩
  exact k w' (S.turned hO hr hm)
/-- The same, with the first box's cell behind it. -/
theorem St.call0 (S : St w0 B p A cp ((g, t, #[v0]) :: L) m r w) (h : ∀ nv, RunP w B p A cp nv r → Calls Tryz.prog F args w (Done B p A cp w v r')) (hm : r'.ns.length ≤ m') (k : ∀ w', St w0 B p A cp ((g, t, #[v0]) :: L) m' r' w' → w'.cell? ⟨g, 0, none⟩ = some v0 → Q (.returned v) w') : Calls Tryz.prog F args w Q :=
  S.call h hm fun w' S' => k w' S' S'.c0
variable {c x y l what arg : Int} {ok : Bool}
theorem sLoad (S : St w0 B p A cp ((g, t, #[v0]) :: L) m r w) (k : ∀ w', St w0 B p A cp ((g, t, #[v0]) :: L) (m) (r.doA 1 c 0 0) w' → w'.cell? ⟨g, 0, none⟩ = some v0 → Q (.returned (.int .u32 (wordAt r.xs c))) w')  : Calls Tryz.prog 107 #[.pointer (some ⟨B, 0, none⟩), .int .i64 c] w Q :=
  S.call0 (fun _ h => load_run B p A cp _ r c _ h) S.len k
theorem xLoad (S : St w0 B p A cp L m r w) (k : ∀ w', St w0 B p A cp L (m) (r.doA 1 c 0 0) w' → Q (.returned (.int .u32 (wordAt r.xs c))) w')  : Calls Tryz.prog 107 #[.pointer (some ⟨B, 0, none⟩), .int .i64 c] w Q :=
  S.call (fun _ h => load_run B p A cp _ r c _ h) S.len k
theorem sAdd (S : St w0 B p A cp ((g, t, #[v0]) :: L) m r w) (k : ∀ w', St w0 B p A cp ((g, t, #[v0]) :: L) (m) (r.doA 3 c x 0) w' → w'.cell? ⟨g, 0, none⟩ = some v0 → Q (.returned (.int .u32 (wordAt r.xs c))) w')  : Calls Tryz.prog 100 #[.pointer (some ⟨B, 0, none⟩), .int .i64 c, .int .u32 x] w Q :=
  S.call0 (fun _ h => add_run B p A cp _ r c x _ h) S.len k
theorem xAdd (S : St w0 B p A cp L m r w) (k : ∀ w', St w0 B p A cp L (m) (r.doA 3 c x 0) w' → Q (.returned (.int .u32 (wordAt r.xs c))) w')  : Calls Tryz.prog 100 #[.pointer (some ⟨B, 0, none⟩), .int .i64 c, .int .u32 x] w Q :=
  S.call (fun _ h => add_run B p A cp _ r c x _ h) S.len k
theorem sCas (S : St w0 B p A cp ((g, t, #[v0]) :: L) m r w) (k : ∀ w', St w0 B p A cp ((g, t, #[v0]) :: L) (m) (r.doA 5 c x y) w' → w'.cell? ⟨g, 0, none⟩ = some v0 → Q (.returned (.bool (there r.xs c && (wordAt r.xs c == x)))) w')  : Calls Tryz.prog 110 #[.pointer (some ⟨B, 0, none⟩), .int .i64 c, .int .u32 x, .int .u32 y] w Q :=
  S.call0 (fun _ h => cas_run B p A cp _ r c x y _ h) S.len k
theorem xCas (S : St w0 B p A cp L m r w) (k : ∀ w', St w0 B p A cp L (m) (r.doA 5 c x y) w' → Q (.returned (.bool (there r.xs c && (wordAt r.xs c == x)))) w')  : Calls Tryz.prog 110 #[.pointer (some ⟨B, 0, none⟩), .int .i64 c, .int .u32 x, .int .u32 y] w Q :=
  S.call (fun _ h => cas_run B p A cp _ r c x y _ h) S.len k
theorem sNote (S : St w0 B p A cp ((g, t, #[v0]) :: L) m r w) (k : ∀ w', St w0 B p A cp ((g, t, #[v0]) :: L) (m + 1) (r.note what arg) w' → w'.cell? ⟨g, 0, none⟩ = some v0 → Q (.returned (.tuple #[])) w') (hm : m ≤ 1000 := by decide) : Calls Tryz.prog 63 #[.pointer (some ⟨B, 0, none⟩), .int .i64 what, .int .i64 arg] w Q :=
  S.call0 (fun _ h => note_run B p A cp _ r what arg _ h (Nat.le_trans S.len hm)) (by have := S.len; simp only [LS.note, List.length_append, List.length_cons, List.length_nil]; omega) k
theorem xNote (S : St w0 B p A cp L m r w) (k : ∀ w', St w0 B p A cp L (m + 1) (r.note what arg) w' → Q (.returned (.tuple #[])) w') (hm : m ≤ 1000 := by decide) : Calls Tryz.prog 63 #[.pointer (some ⟨B, 0, none⟩), .int .i64 what, .int .i64 arg] w Q :=
  S.call (fun _ h => note_run B p A cp _ r what arg _ h (Nat.le_trans S.len hm)) (by have := S.len; simp only [LS.note, List.length_append, List.length_cons, List.length_nil]; omega) k
theorem sGo (S : St w0 B p A cp ((g, t, #[v0]) :: L) m r w) (k : ∀ w', St w0 B p A cp ((g, t, #[v0]) :: L) (m) (r.go l) w' → w'.cell? ⟨g, 0, none⟩ = some v0 → Q (.returned (.tuple #[])) w')  : Calls Tryz.prog 95 #[.pointer (some ⟨B, 0, none⟩), .int .i64 l] w Q :=
  S.call0 (fun _ h => go_run B p A cp _ r l _ h) S.len k
theorem xGo (S : St w0 B p A cp L m r w) (k : ∀ w', St w0 B p A cp L (m) (r.go l) w' → Q (.returned (.tuple #[])) w')  : Calls Tryz.prog 95 #[.pointer (some ⟨B, 0, none⟩), .int .i64 l] w Q :=
  S.call (fun _ h => go_run B p A cp _ r l _ h) S.len k
theorem sEnd (S : St w0 B p A cp ((g, t, #[v0]) :: L) m r w) (k : ∀ w', St w0 B p A cp ((g, t, #[v0]) :: L) (m) (r.fin ok) w' → w'.cell? ⟨g, 0, none⟩ = some v0 → Q (.returned (.tuple #[])) w')  : Calls Tryz.prog 97 #[.pointer (some ⟨B, 0, none⟩), .bool ok] w Q :=
  S.call0 (fun _ h => end_run B p A cp _ r _ ok h) S.len k
theorem xEnd (S : St w0 B p A cp L m r w) (k : ∀ w', St w0 B p A cp L (m) (r.fin ok) w' → Q (.returned (.tuple #[])) w')  : Calls Tryz.prog 97 #[.pointer (some ⟨B, 0, none⟩), .bool ok] w Q :=
  S.call (fun _ h => end_run B p A cp _ r _ ok h) S.len k
theorem sWake (S : St w0 B p A cp ((g, t, #[v0]) :: L) m r w) (k : ∀ w', St w0 B p A cp ((g, t, #[v0]) :: L) (m) (r.wake c) w' → w'.cell? ⟨g, 0, none⟩ = some v0 → Q (.returned (.tuple #[])) w')  : Calls Tryz.prog 105 #[.pointer (some ⟨B, 0, none⟩), .int .i64 c] w Q :=
  S.call0 (fun _ h => wake_run B p A cp _ r c _ h) S.len k
theorem xWake (S : St w0 B p A cp L m r w) (k : ∀ w', St w0 B p A cp L (m) (r.wake c) w' → Q (.returned (.tuple #[])) w')  : Calls Tryz.prog 105 #[.pointer (some ⟨B, 0, none⟩), .int .i64 c] w Q :=
  S.call (fun _ h => wake_run B p A cp _ r c _ h) S.len k
/-- A wait; what it leaves is given by a letter. -/
theorem sWait {f : Fn} {f1 f2 : Array Value} {q : Int → Bool} {sn dn : Bool} (S : St w0 B p A cp ((g, t, #[v0]) :: L) m r w) (hf : Holds A w (.func f f1 f2) q) (hx : Words r.xs) (hs : (r.stepR c q).seen = sn) (hd : (r.stepR c q).done = dn) (hr : r.wait c q = r')
    (k : ∀ w', St w0 B p A cp ((g, t, #[v0]) :: L) m r' w' → w'.cell? ⟨g, 0, none⟩ = some v0 → Q (.returned (.tuple #[.bool sn, .bool dn])) w') : Calls Tryz.prog 102 #[.pointer (some ⟨B, 0, none⟩), .int .i64 c, .func f f1 f2] w Q := by
  subst hs hd hr
  exact S.call0 (fun _ h => wait_run B p A cp _ r c f f1 f2 q _ h hf hx) S.len k
theorem xWait {f : Fn} {f1 f2 : Array Value} {q : Int → Bool} {sn dn : Bool} (S : St w0 B p A cp L m r w) (hf : Holds A w (.func f f1 f2) q) (hx : Words r.xs) (hs : (r.stepR c q).seen = sn) (hd : (r.stepR c q).done = dn) (hr : r.wait c q = r')
    (k : ∀ w', St w0 B p A cp L m r' w' → Q (.returned (.tuple #[.bool sn, .bool dn])) w') : Calls Tryz.prog 102 #[.pointer (some ⟨B, 0, none⟩), .int .i64 c, .func f f1 f2] w Q := by
  subst hs hd hr
  exact S.call (fun _ h => wait_run B p A cp _ r c f f1 f2 q _ h hf hx) S.len k
end

-- a closure's boxes, new
section
variable {w : World} {B : Nat} {p A : Option Addr} {cp : Nat} {r : LS} {nv v1 v2 v3 v4 : Value} {t1 t2 t3 t4 : TypeId}
theorem st_new {L : List (Nat × TypeId × Array Value)} {w : World} (h : RunP w B p A cp nv r) (hl : r.ns.length ≤ 900) (hb : RowsL w L) (ha : ∀ x ∈ L, Aside x.2.1) : St w B p A cp L 900 r w := ⟨Only.refl _ _, hb, ha, ⟨nv, h⟩, hl⟩
theorem rows_nil (w : World) : RowsL w [] := fun _ h => by simp at h
theorem RowsL.alloc {w : World} {L : List (Nat × TypeId × Array Value)} (h : RowsL w L) (o : Obj) : RowsL (w.alloc o) L := h.keep ((Only.refl Nil w).alloc o)
theorem asides_nil : ∀ x ∈ ([] : List (Nat × TypeId × Array Value)), Aside x.2.1 := fun _ h => by simp at h
theorem asides_cons {g : Nat} {t : TypeId} {cs : Array Value} {L : List (Nat × TypeId × Array Value)} (h : Aside t) (hl : ∀ x ∈ L, Aside x.2.1) : ∀ x ∈ (g, t, cs) :: L, Aside x.2.1 := fun x hx => by
  rcases List.mem_cons.1 hx with rfl | hx
  · exact h
  · exact hl x hx
theorem mk1 (h : RunP w B p A cp nv r) (hl : r.ns.length ≤ 900) : Only Nil w (w.alloc (.cells #[Value.pointer (some ⟨B, 0, none⟩)] 99)) ∧ St (w.alloc (.cells #[Value.pointer (some ⟨B, 0, none⟩)] 99)) B p A cp [(w.heap.size, 99, #[Value.pointer (some ⟨B, 0, none⟩)])] 900 r (w.alloc (.cells #[Value.pointer (some ⟨B, 0, none⟩)] 99)) := by
  have e := (Only.refl Nil w).alloc (.cells #[Value.pointer (some ⟨B, 0, none⟩)] 99)
  exact ⟨e, st_new (h.keep e) hl ((rows_nil _).cons (Row.new w _ _)) (asides_cons aside_p asides_nil)⟩
theorem mk2 (h : RunP w B p A cp nv r) (hl : r.ns.length ≤ 900) (h1 : Aside t1) : Only Nil w ((w.alloc (.cells #[Value.pointer (some ⟨B, 0, none⟩)] 99)).alloc (.cells #[v1] t1)) ∧ St ((w.alloc (.cells #[Value.pointer (some ⟨B, 0, none⟩)] 99)).alloc (.cells #[v1] t1)) B p A cp [(w.heap.size, 99, #[Value.pointer (some ⟨B, 0, none⟩)]), (w.heap.size + 1, t1, #[v1])] 900 r ((w.alloc (.cells #[Value.pointer (some ⟨B, 0, none⟩)] 99)).alloc (.cells #[v1] t1)) := by
  have e := ((Only.refl Nil w).alloc (.cells #[Value.pointer (some ⟨B, 0, none⟩)] 99)).alloc (.cells #[v1] t1)
  exact ⟨e, st_new (h.keep e) hl (((rows_nil _).cons (Row.new2 w _ _ _)).cons ((Row.new w _ _).alloc _)) (asides_cons aside_p (asides_cons h1 asides_nil))⟩
theorem mk3 (h : RunP w B p A cp nv r) (hl : r.ns.length ≤ 900) (h1 : Aside t1) (h2 : Aside t2) : Only Nil w (((w.alloc (.cells #[Value.pointer (some ⟨B, 0, none⟩)] 99)).alloc (.cells #[v1] t1)).alloc (.cells #[v2] t2)) ∧ St (((w.alloc (.cells #[Value.pointer (some ⟨B, 0, none⟩)] 99)).alloc (.cells #[v1] t1)).alloc (.cells #[v2] t2)) B p A cp [(w.heap.size, 99, #[Value.pointer (some ⟨B, 0, none⟩)]), (w.heap.size + 1, t1, #[v1]), (w.heap.size + 1 + 1, t2, #[v2])] 900 r (((w.alloc (.cells #[Value.pointer (some ⟨B, 0, none⟩)] 99)).alloc (.cells #[v1] t1)).alloc (.cells #[v2] t2)) := by
  have e := (((Only.refl Nil w).alloc (.cells #[Value.pointer (some ⟨B, 0, none⟩)] 99)).alloc (.cells #[v1] t1)).alloc (.cells #[v2] t2)
  exact ⟨e, st_new (h.keep e) hl ((((rows_nil _).cons (Row.at (by simp))).cons ((Row.new2 w _ _ _).alloc _)).cons (((Row.new w _ _).alloc _).alloc _)) (asides_cons aside_p (asides_cons h1 (asides_cons h2 asides_nil)))⟩
theorem mk4 (h : RunP w B p A cp nv r) (hl : r.ns.length ≤ 900) (h1 : Aside t1) (h2 : Aside t2) (h3 : Aside t3) : Only Nil w ((((w.alloc (.cells #[Value.pointer (some ⟨B, 0, none⟩)] 99)).alloc (.cells #[v1] t1)).alloc (.cells #[v2] t2)).alloc (.cells #[v3] t3)) ∧ St ((((w.alloc (.cells #[Value.pointer (some ⟨B, 0, none⟩)] 99)).alloc (.cells #[v1] t1)).alloc (.cells #[v2] t2)).alloc (.cells #[v3] t3)) B p A cp [(w.heap.size, 99, #[Value.pointer (some ⟨B, 0, none⟩)]), (w.heap.size + 1, t1, #[v1]), (w.heap.size + 1 + 1, t2, #[v2]), (w.heap.size + 1 + 1 + 1, t3, #[v3])] 900 r ((((w.alloc (.cells #[Value.pointer (some ⟨B, 0, none⟩)] 99)).alloc (.cells #[v1] t1)).alloc (.cells #[v2] t2)).alloc (.cells #[v3] t3)) := by
  have e := ((((Only.refl Nil w).alloc (.cells #[Value.pointer (some ⟨B, 0, none⟩)] 99)).alloc (.cells #[v1] t1)).alloc (.cells #[v2] t2)).alloc (.cells #[v3] t3)
  exact ⟨e, st_new (h.keep e) hl (((((rows_nil _).cons (Row.at (by simp))).cons ((Row.at (by simp)).alloc _)).cons (((Row.new2 w _ _ _).alloc _).alloc _)).cons ((((Row.new w _ _).alloc _).alloc _).alloc _)) (asides_cons aside_p (asides_cons h1 (asides_cons h2 (asides_cons h3 asides_nil))))⟩
end
end Go.Proofs.YtigdbokfapedcaaGreat
/- A step of a run by a lock's lines, whole: whatever the lock. -/
set_option linter.unusedVariables false
set_option linter.unusedSimpArgs false
namespace Go.Proofs.YtigdbokfapedcaaGreat
open Go.RowKit
theorem step_of {F : FuncId} (hcf : Enters1 F) (f : LS → LS) {B : Nat} {p A : Option Addr} {cp : Nat} {nv : Value} {r : LS} {w : World} (h : RunQ w B p A cp nv r)
    (hc : ∀ w nv, RunP w B p A cp nv r.fresh → Calls Tryz.prog F #[Value.pointer (some ⟨B, 0, none⟩)] w (Done B p A cp w (.tuple #[]) (f r.fresh))) :
    Calls Tryz.prog 164 #[Value.pointer (some ⟨B, 0, none⟩), .func (.func F) #[] #[]] w (Stepd B p A cp (r.next f) (TurnB B A) (fun _ => True) w) := by
  have hl : Lined B p A cp (.func (.func F) #[] #[]) r.fresh (f r.fresh) (TurnB B A) (fun _ => True) (fun _ => True) := by
    intro w nv _ h
    have HT := Lib.hid (hc w nv h)
    have hn := neq_fnL
    unfold Enters1 at hcf
    clear h hc
    generalize f r.fresh = r' at *
    go_enter_defers Tryz.func235, Tryz.ntmps235
    go_wp2_with fail
    refine HT.out.mono ?_
    rintro e w1 ⟨rfl, hO, hP⟩
    have H := Lib.hid (And.intro hO hP)
    clear hO hP HT
    go_wp2
    refine leaves_cons (f := 271) (args := #[]) (by simp) (by simp [go_sem]) ?_
    refine (rec_run _).mono ?_
    rintro e u' w'' ⟨rfl, rfl, rfl⟩
    exact ⟨_, by simp [results, Tryz.results235, go_sem], rfl, H.out.1, trivial, H.out.2⟩
  unfold LS.next
  cases hon : r.k.on
  · rw [if_neg Bool.false_ne_true]
    exact step_lines B p A cp nv _ r _ _ _ _ w h hon hl (.inl rfl) (fun _ _ => trivial)
  · rw [if_pos rfl]
    exact step_wake B p A cp nv _ r w h hon
end Go.Proofs.YtigdbokfapedcaaGreat
/- Contracts of Ahead, the program's and the answer's. -/
namespace Go.Proofs.YtigdbokfapedcaaGreat
open Go.RowKit

theorem ahead_any (a b : Int) (w : World) :
    Calls Tryz.prog 186 #[.int .u32 a, .int .u32 b] w fun e w' => e = .returned (.int .i64 (aheadI a b)) ∧ w = w' := by
  go_enter Tryz.func186, Tryz.ntmps186
  go_wp2
  go_ret
  refine ⟨congrArg (fun x => Ending.returned (.int .i64 x)) ?_, rfl⟩
  simp only [wrap32, wrap64, aheadI]
  omega
end Go.Proofs.YtigdbokfapedcaaGreat
/- A run's calls, the program's: Store. -/
set_option linter.unusedVariables false
set_option linter.unusedSimpArgs false
namespace Go.Proofs.YtigdbokfapedcaaGreat
open Go.RowKit

section
variable (B : Nat) (p A : Option Addr) (cp : Nat) (nv : Value) (r : LS) (c x y : Int) (w : World)
theorem store_run (h : RunP w B p A cp nv r) : Calls Tryz.prog 109 #[.pointer (some ⟨B, 0, none⟩), .int .i64 c, .int .u32 x] w (Done B p A cp w (.tuple #[]) (r.doA 2 c x 0)) := by
  go_enter Tryz.func109, Tryz.ntmps109
  go_wp2_with fail
  refine (access_run B p A cp nv r 2 c x 0 0 _ h rfl).mono ?_
  rintro e w1 ⟨rfl, hO, hP⟩
  have HO := Lib.hid hO
  have HP := Lib.hid hP
  clear hO hP h
  go_wp2
  go_returns
  exact ⟨rfl, HO.out, nv, HP.out⟩
end
end Go.Proofs.YtigdbokfapedcaaGreat
/- Words that go round, and parts of words: the plain mathematics. Nothing here speaks of a program. -/
namespace Go.Proofs.YtigdbokfapedcaaGreat

def isF (s n : Int) : Bool := decide (0 ≤ s ∧ s ≤ 31 ∧ 1 ≤ n ∧ n ≤ 32 ∧ s + n ≤ 32)
def pw (n : Int) : Int := 2 ^ n.toNat
def fieldOf (v s n : Int) : Int := v / pw s % pw n
def getI (v s n : Int) : Int := if isF s n then fieldOf v s n else 0
def putIn (v s n x : Int) : Int := v + (x % pw n - fieldOf v s n) * pw s
def putI (v s n x : Int) : Int := if isF s n then putIn v s n x else v
def bumpI (v s n : Int) : Int := (putI v s n ((getI v s n + 1) % 4294967296) - v) % 4294967296
/-- What lies in the field is taken out. -/
def holed (v s n : Int) : Int := v - fieldOf v s n * pw s

theorem isF_iff {s n : Int} : isF s n = true ↔ 0 ≤ s ∧ s ≤ 31 ∧ 1 ≤ n ∧ n ≤ 32 ∧ s + n ≤ 32 := by simp [isF]
theorem pw_pos (n : Int) : 0 < pw n := Int.pow_pos (by decide)
theorem pw_nat (s : Nat) : pw (s : Int) = ((2 ^ s : Nat) : Int) := by simp [pw]
theorem pw_add {s n : Int} (hs : 0 ≤ s) (hn : 0 ≤ n) : pw (s + n) = pw s * pw n := by
  unfold pw; rw [Int.toNat_add hs hn, Int.pow_add]
theorem pw_le {s n : Int} (h : s ≤ n) : pw s ≤ pw n := by
  have h1 : s.toNat ≤ n.toNat := by omega
  have h2 : 2 ^ s.toNat ≤ 2 ^ n.toNat := Nat.pow_le_pow_right (by decide) h1
  unfold pw; exact_mod_cast h2
theorem pw_32 : pw 32 = 4294967296 := rfl
theorem pw_8 : pw 8 = 256 := rfl
theorem pw_0 : pw 0 = 1 := rfl
theorem pw_le32 {n : Int} (h : n ≤ 32) : pw n ≤ 4294967296 := by have := pw_le h; rwa [pw_32] at this
theorem pw_succ {n : Int} (h : 0 ≤ n) : pw (n + 1) = pw n * 2 := by rw [pw_add h (by decide)]; rfl

theorem field_bd (v s n : Int) : 0 ≤ fieldOf v s n ∧ fieldOf v s n < pw n := ⟨Int.emod_nonneg _ (by have := pw_pos n; omega), Int.emod_lt_of_pos _ (pw_pos n)⟩
theorem field_lt32 {v s n : Int} (h : isF s n = true) : fieldOf v s n < 4294967296 := by
  have := (field_bd v s n).2; have := pw_le32 (isF_iff.1 h).2.2.2.1; omega

/-- A word is what lies above the field, the field, and what lies below it. -/
theorem parts {v s n : Int} (hs : 0 ≤ s) (hn : 0 ≤ n) : v = v / pw (s + n) * pw (s + n) + fieldOf v s n * pw s + v % pw s := by
  have h1 : v / pw (s + n) = v / pw s / pw n := by rw [pw_add hs hn, Int.ediv_ediv_of_nonneg (by have := pw_pos s; omega)]
  have h2 := Int.ediv_mul_add_emod v (pw s)
  have h3 := Int.ediv_mul_add_emod (v / pw s) (pw n)
  rw [h1, pw_add hs hn, fieldOf]
  calc v = v / pw s * pw s + v % pw s := h2.symm
    _ = (v / pw s / pw n * pw n + v / pw s % pw n) * pw s + v % pw s := by rw [h3]
    _ = _ := by rw [Int.add_mul, Int.mul_assoc, Int.mul_comm (pw n) (pw s)]

theorem below_bd (v s : Int) : 0 ≤ v % pw s ∧ v % pw s < pw s := ⟨Int.emod_nonneg _ (by have := pw_pos s; omega), Int.emod_lt_of_pos _ (pw_pos s)⟩
theorem put_parts {v s n : Int} (x : Int) (hs : 0 ≤ s) (hn : 0 ≤ n) : putIn v s n x = v / pw (s + n) * pw (s + n) + (x % pw n * pw s + v % pw s) := by
  have h := parts (v := v) hs hn
  unfold putIn
  rw [Int.sub_mul]
  omega
theorem mod_bd (x n : Int) : 0 ≤ x % pw n ∧ x % pw n < pw n := ⟨Int.emod_nonneg _ (by have := pw_pos n; omega), Int.emod_lt_of_pos _ (pw_pos n)⟩
theorem low_bd {v s n : Int} (x : Int) (hs : 0 ≤ s) (hn : 0 ≤ n) : 0 ≤ x % pw n * pw s + v % pw s ∧ x % pw n * pw s + v % pw s < pw (s + n) := by
  have h1 := mod_bd x n
  have h2 := below_bd v s
  have h3 : x % pw n * pw s ≤ (pw n - 1) * pw s := Int.mul_le_mul_of_nonneg_right (by omega) (by have := pw_pos s; omega)
  have h4 : 0 ≤ x % pw n * pw s := Int.mul_nonneg h1.1 (by have := pw_pos s; omega)
  rw [pw_add hs hn, Int.mul_comm (pw s)]
  rw [Int.sub_mul] at h3
  omega
theorem put_bd {v s n : Int} (x : Int) (h : isF s n = true) (hv : 0 ≤ v ∧ v < 4294967296) : 0 ≤ putIn v s n x ∧ putIn v s n x < 4294967296 := by
  obtain ⟨hs, _, hn, _, hsn⟩ := isF_iff.1 h
  have h1 := low_bd (v := v) x hs (by omega : 0 ≤ n)
  rw [put_parts x hs (by omega)]
  have hp := pw_pos (s + n)
  have hk : pw (s + n) * pw (32 - (s + n)) = 4294967296 := by rw [← pw_add (by omega) (by omega), show s + n + (32 - (s + n)) = 32 by omega, pw_32]
  generalize hq : v / pw (s + n) = q
  have h2 : 0 ≤ q := by rw [← hq]; exact Int.ediv_nonneg hv.1 (by omega)
  have h3 : q < pw (32 - (s + n)) := by
    rw [← hq]; exact Int.ediv_lt_of_lt_mul hp (by rw [Int.mul_comm, hk]; exact hv.2)
  have h4 : q * pw (s + n) ≤ (pw (32 - (s + n)) - 1) * pw (s + n) := Int.mul_le_mul_of_nonneg_right (by omega) (by omega)
  have h5 : 0 ≤ q * pw (s + n) := Int.mul_nonneg h2 (by omega)
  rw [Int.sub_mul, Int.mul_comm (pw (32 - (s + n))), hk] at h4
  omega
theorem put_move {v s n : Int} (x : Int) (h : isF s n = true) : -4294967296 ≤ (x % pw n - fieldOf v s n) * pw s ∧ (x % pw n - fieldOf v s n) * pw s ≤ 4294967296 := by
  obtain ⟨hs, _, hn, _, hsn⟩ := isF_iff.1 h
  have h1 := mod_bd x n
  have h2 := field_bd v s n
  have hp := pw_pos s
  have h3 : pw n * pw s ≤ 4294967296 := by rw [← pw_add (by omega) hs, ← pw_32]; exact pw_le (by omega)
  have h4 : (x % pw n - fieldOf v s n) * pw s ≤ pw n * pw s := Int.mul_le_mul_of_nonneg_right (by omega) (by omega)
  have h5 : -pw n * pw s ≤ (x % pw n - fieldOf v s n) * pw s := Int.mul_le_mul_of_nonneg_right (by omega) (by omega)
  rw [Int.neg_mul] at h5
  omega
theorem put_div {v s n : Int} (x : Int) (hs : 0 ≤ s) (hn : 0 ≤ n) : putIn v s n x / pw (s + n) = v / pw (s + n) := by
  have h1 := low_bd (v := v) x hs hn
  rw [put_parts x hs hn, Int.add_comm, Int.add_mul_ediv_right _ _ (by have := pw_pos (s + n); omega), Int.ediv_eq_zero_of_lt h1.1 h1.2, Int.zero_add]
theorem put_field {v s n : Int} (x : Int) (hs : 0 ≤ s) (hn : 0 ≤ n) : fieldOf (putIn v s n x) s n = x % pw n := by
  have h2 := below_bd v s
  have hp := pw_pos s
  rw [put_parts x hs hn, pw_add hs hn, fieldOf]
  have e : v / (pw s * pw n) * (pw s * pw n) + (x % pw n * pw s + v % pw s) = v % pw s + (v / (pw s * pw n) * pw n + x % pw n) * pw s := by
    rw [Int.add_mul, Int.mul_assoc, Int.mul_comm (pw n) (pw s)]; omega
  rw [e, Int.add_mul_ediv_right _ _ (by omega), Int.ediv_eq_zero_of_lt h2.1 h2.2, Int.zero_add, Int.add_comm, Int.add_mul_emod_self_right, Int.emod_emod]
theorem put_below {v s n : Int} (x : Int) : putIn v s n x % pw s = v % pw s := by
  rw [putIn, Int.add_mul_emod_self_right]
/-- Put twice is put once. -/
theorem put_put {v s n : Int} (x y : Int) (hs : 0 ≤ s) (hn : 0 ≤ n) : putIn (putIn v s n x) s n y = putIn v s n y := by
  rw [put_parts y hs hn, put_div x hs hn, put_below x, put_parts y hs hn]
theorem put_same {v s n : Int} (x : Int) (h : x % pw n = fieldOf v s n) : putIn v s n x = v := by
  unfold putIn; rw [h]; simp
theorem put_mod {v s n : Int} (x y : Int) (h : x % pw n = y % pw n) : putIn v s n x = putIn v s n y := by unfold putIn; rw [h]
/-- A field above is as it was. -/
theorem put_above {v s n t m : Int} (x : Int) (hs : 0 ≤ s) (hn : 0 ≤ n) (ht : s + n ≤ t) : fieldOf (putIn v s n x) t m = fieldOf v t m := by
  have e : ∀ u : Int, u / pw t = u / pw (s + n) / pw (t - (s + n)) := fun u => by
    rw [Int.ediv_ediv_of_nonneg (by have := pw_pos (s + n); omega), ← pw_add (by omega) (by omega), show s + n + (t - (s + n)) = t by omega]
  unfold fieldOf
  rw [e, put_div x hs hn, ← e]
/-- A field below is as it was. -/
theorem put_under {v s n t m : Int} (x : Int) (ht : 0 ≤ t) (hm : 0 ≤ m) (h : t + m ≤ s) : fieldOf (putIn v s n x) t m = fieldOf v t m := by
  have e : pw s = pw (s - (t + m)) * pw m * pw t := by
    rw [← pw_add (by omega) hm, ← pw_add (by omega) ht, show s - (t + m) + m + t = s by omega]
  unfold fieldOf putIn
  rw [e, ← Int.mul_assoc, Int.add_mul_ediv_right _ _ (by have := pw_pos t; omega), ← Int.mul_assoc, Int.add_mul_emod_self_right]

/-! ## The bits -/
theorem nat_holed {v s n : Nat} (hv : v < 2 ^ 32) (h : s + n ≤ 32) : v &&& (4294967295 - (2 ^ n - 1) * 2 ^ s) = (v / 2 ^ (s + n)) * 2 ^ (s + n) ||| v % 2 ^ s := by
  have hm : (2 ^ n - 1) * 2 ^ s < 2 ^ 32 := by
    have h1 : (2 ^ n - 1) * 2 ^ s < 2 ^ n * 2 ^ s := Nat.mul_lt_mul_of_pos_right (by have := Nat.two_pow_pos n; omega) (Nat.two_pow_pos s)
    rw [← Nat.pow_add] at h1
    exact Nat.lt_of_lt_of_le h1 (Nat.pow_le_pow_right (by decide) (by omega))
  have e1 : 4294967295 - (2 ^ n - 1) * 2 ^ s = 2 ^ 32 - ((2 ^ n - 1) * 2 ^ s + 1) := by omega
  rw [e1]
  apply Nat.eq_of_testBit_eq
  intro i
  rw [Nat.testBit_and, Nat.testBit_two_pow_sub_succ hm, Nat.testBit_or, ← Nat.shiftLeft_eq, ← Nat.shiftLeft_eq, ← Nat.shiftRight_eq_div_pow, Nat.testBit_shiftLeft, Nat.testBit_shiftLeft, Nat.testBit_shiftRight, Nat.testBit_mod_two_pow, Nat.testBit_two_pow_sub_one]
  by_cases h1 : i < s
  · have a1 : ¬ s ≤ i := by omega
    have a2 : ¬ s + n ≤ i := by omega
    have a3 : i < 32 := by omega
    simp [h1, a1, a2, a3]
  · by_cases h2 : s + n ≤ i
    · have e2 : s + n + (i - (s + n)) = i := by omega
      have a1 : ¬ i - s < n := by omega
      rw [e2]
      by_cases h3 : i < 32
      · simp [h1, h2, h3, a1]
      · have : v.testBit i = false := Nat.testBit_lt_two_pow (Nat.lt_of_lt_of_le hv (Nat.pow_le_pow_right (by decide) (by omega)))
        simp [this]
    · have a1 : i - s < n := by omega
      have a2 : s ≤ i := by omega
      simp [h1, h2, a1, a2]

theorem nat_put {v s n y : Nat} (hv : v < 2 ^ 32) (h : s + n ≤ 32) (hy : y < 2 ^ n) :
    (v &&& (4294967295 - (2 ^ n - 1) * 2 ^ s)) ||| (y * 2 ^ s) = (v / 2 ^ (s + n)) * 2 ^ (s + n) + (y * 2 ^ s + v % 2 ^ s) := by
  have hl : v % 2 ^ s < 2 ^ s := Nat.mod_lt _ (Nat.two_pow_pos s)
  rw [nat_holed hv h, Nat.or_assoc, Nat.or_comm (v % 2 ^ s), nat_join s _ _ (Nat.mul_mod_left _ _) hl, nat_join (s + n) _ _ (Nat.mul_mod_left _ _) ?_]
  have h1 : y * 2 ^ s ≤ (2 ^ n - 1) * 2 ^ s := Nat.mul_le_mul_right _ (by omega)
  rw [Nat.sub_mul, ← Nat.pow_add, Nat.add_comm n s] at h1
  have h2 : 2 ^ s ≤ 2 ^ (s + n) := Nat.pow_le_pow_right (by decide) (by omega)
  omega

theorem ones_shr {n : Int} (h : 1 ≤ n ∧ n ≤ 32) : (4294967295 : Int) / 2 ^ (32 - n).toNat = pw n - 1 := by
  have e2 : pw n * pw (32 - n) = 4294967296 := by rw [← pw_add (by omega) (by omega), show n + (32 - n) = 32 by omega, pw_32]
  show 4294967295 / pw (32 - n) = pw n - 1
  have hp := pw_pos (32 - n)
  have e3 : (4294967295 : Int) = (pw (32 - n) - 1) + (pw n - 1) * pw (32 - n) := by rw [Int.sub_mul, e2]; omega
  rw [e3, Int.add_mul_ediv_right _ _ (by omega), Int.ediv_eq_zero_of_lt (by omega) (by omega), Int.zero_add]

theorem and_low {x n : Int} (hx : 0 ≤ x ∧ x < 4294967296) (hn : 0 ≤ n ∧ n ≤ 32) : bits .and .u32 x (pw n - 1) = x % pw n := by
  obtain ⟨m, rfl⟩ := Int.eq_ofNat_of_zero_le hn.1
  have := bits_mask .u32 32 (by decide) (fun k h0 h1 => by rw [IntKind.wrap_u32']; omega) m (by omega) x hx.1 (by simpa using hx.2)
  simpa [pw] using this

theorem put_bits {v s n x : Int} (h : isF s n = true) (hv : 0 ≤ v ∧ v < 4294967296) :
    bits .or .u32 (bits .andNot .u32 v ((pw n - 1) * pw s % 4294967296)) (x % pw n * pw s % 4294967296) = putIn v s n x := by
  obtain ⟨hs, hs1, hn, hn1, hsn⟩ := isF_iff.1 h
  have hn0 : 0 ≤ n := by omega
  rw [put_parts x hs hn0]
  have k1 := low_bd (v := 0) x hs hn0
  have k2 := pw_le32 hsn
  have k4 : 0 ≤ x % pw n * pw s := Int.mul_nonneg (mod_bd x n).1 (by have := pw_pos s; omega)
  have k3 : (x % pw n * pw s) % 4294967296 = x % pw n * pw s := by
    rw [Int.zero_emod, Int.add_zero] at k1; exact Int.emod_eq_of_lt k1.1 (by omega)
  have k5 : (pw n - 1) * pw s % 4294967296 = (pw n - 1) * pw s := by
    have e : (pw n - 1) * pw s = pw (s + n) - pw s := by rw [Int.sub_mul, Int.one_mul, pw_add hs hn0, Int.mul_comm]
    have := pw_pos s
    have := pw_le (show s ≤ s + n by omega)
    rw [e]; exact Int.emod_eq_of_lt (by omega) (by omega)
  rw [k3, k5]
  obtain ⟨V, rfl⟩ := Int.eq_ofNat_of_zero_le hv.1
  obtain ⟨S, rfl⟩ := Int.eq_ofNat_of_zero_le hs
  obtain ⟨N, rfl⟩ := Int.eq_ofNat_of_zero_le hn0
  obtain ⟨Y, hY⟩ := Int.eq_ofNat_of_zero_le (mod_bd x (N : Int)).1
  have hYb := (mod_bd x (N : Int)).2
  rw [hY, pw_nat] at hYb
  have hYb' : Y < 2 ^ N := by exact_mod_cast hYb
  have hV : V < 2 ^ 32 := by omega
  rw [hY, ← Int.natCast_add, pw_nat, pw_nat, pw_nat]
  have e1 : (((2 ^ N : Nat) : Int) - 1) * ((2 ^ S : Nat) : Int) = (((2 ^ N - 1) * 2 ^ S : Nat) : Int) := by
    have := Nat.two_pow_pos N
    rw [Int.natCast_mul, Int.natCast_sub this]; rfl
  have hm : (2 ^ N - 1) * 2 ^ S < 2 ^ 32 := by
    have h1 : (2 ^ N - 1) * 2 ^ S < 2 ^ N * 2 ^ S := Nat.mul_lt_mul_of_pos_right (by have := Nat.two_pow_pos N; omega) (Nat.two_pow_pos S)
    rw [← Nat.pow_add] at h1
    exact Nat.lt_of_lt_of_le h1 (Nat.pow_le_pow_right (by decide) (by omega))
  have hy : Y * 2 ^ S < 2 ^ 32 := by
    have h1 : Y * 2 ^ S < 2 ^ N * 2 ^ S := Nat.mul_lt_mul_of_pos_right hYb' (Nat.two_pow_pos S)
    rw [← Nat.pow_add] at h1
    exact Nat.lt_of_lt_of_le h1 (Nat.pow_le_pow_right (by decide) (by omega))
  rw [e1, u32_andNot_nat V _ (by omega) hm, ← Int.natCast_mul, u32_or_nat _ _ (Nat.lt_of_le_of_lt Nat.and_le_left hV) hy, nat_put hV (by omega) hYb']
  simp
theorem get_bits {v s n : Int} (h : isF s n = true) (hv : 0 ≤ v ∧ v < 4294967296) : bits .and .u32 (v / pw s) (pw n - 1) = fieldOf v s n := by
  obtain ⟨hs, hs1, hn, hn1, hsn⟩ := isF_iff.1 h
  have hp := pw_pos s
  refine and_low ⟨Int.ediv_nonneg hv.1 (by omega), Int.lt_of_le_of_lt (Int.ediv_le_self _ hv.1) hv.2⟩ ⟨by omega, hn1⟩
end Go.Proofs.YtigdbokfapedcaaGreat
/- diff.Get, the program's. -/
set_option linter.unusedVariables false
set_option linter.unusedSimpArgs false
namespace Go.Proofs.YtigdbokfapedcaaGreat
open Go.RowKit

theorem isField_any (s n : Int) (w : World) :
    Calls Tryz.prog 245 #[.int .i64 s, .int .i64 n] w fun e w' => e = .returned (.bool (isF s n)) ∧ w = w' := by
  by_cases h : 0 ≤ s ∧ s ≤ 31 ∧ 1 ≤ n ∧ n ≤ 32
  · obtain ⟨h1, h2, h3, h4⟩ := h
    have e : isF s n = decide (s + n ≤ 32) := by simp [isF, h1, h2, h3, h4]
    have E := Lib.hid e
    clear e
    go_enter Tryz.func245, Tryz.ntmps245
    go_wp2
    go_ret
    exact ⟨by rw [E.out]; rfl, rfl⟩
  · have e : isF s n = false := by
      have : ¬ (0 ≤ s ∧ s ≤ 31 ∧ 1 ≤ n ∧ n ≤ 32 ∧ s + n ≤ 32) := by omega
      simp [isF, this]
    have E := Lib.hid e
    have H := Lib.hid h
    clear e h
    by_cases h1 : 0 ≤ s
    · by_cases h2 : s ≤ 31
      · by_cases h3 : 1 ≤ n
        · have h4 : 32 < n := by have := H.out; omega
          go_enter Tryz.func245, Tryz.ntmps245
          go_wp2
          go_ret
          exact ⟨by rw [E.out]; rfl, rfl⟩
        · have h4 : n < 1 := by omega
          go_enter Tryz.func245, Tryz.ntmps245
          go_wp2
          go_ret
          exact ⟨by rw [E.out]; rfl, rfl⟩
      · have h4 : 31 < s := by omega
        go_enter Tryz.func245, Tryz.ntmps245
        go_wp2
        go_ret
        exact ⟨by rw [E.out]; rfl, rfl⟩
    · have h4 : s < 0 := by omega
      go_enter Tryz.func245, Tryz.ntmps245
      go_wp2
      go_ret
      exact ⟨by rw [E.out]; rfl, rfl⟩

theorem low_any (n : Int) (w : World) (h : 1 ≤ n ∧ n ≤ 32) :
    Calls Tryz.prog 246 #[.int .i64 n] w fun e w' => e = .returned (.int .u32 (pw n - 1)) ∧ w = w' := by
  have E := Lib.hid (ones_shr h)
  obtain ⟨h1, h2⟩ := h
  go_enter Tryz.func246, Tryz.ntmps246
  go_wp2
  go_ret
  exact ⟨congrArg (fun x => Ending.returned (.int .u32 x)) E.out, rfl⟩

theorem isField_yes (s n : Int) (w : World) (h : isF s n = true) : Calls Tryz.prog 245 #[.int .i64 s, .int .i64 n] w fun e w' => e = .returned (.bool true) ∧ w = w' := by
  have := isField_any s n w; rwa [h] at this

theorem isField_no (s n : Int) (w : World) (h : isF s n = false) : Calls Tryz.prog 245 #[.int .i64 s, .int .i64 n] w fun e w' => e = .returned (.bool false) ∧ w = w' := by
  have := isField_any s n w; rwa [h] at this

theorem low_quiet (n : Int) (w : World) (k : Nat) (h1 : 1 ≤ n) (h2 : n ≤ 32) :
    Calls Tryz.prog 246 #[.int .i64 n] (w.drewN k) fun e w' => e = .returned (.int .u32 (pw n - 1)) ∧ ∃ m, w' = w.drewN m :=
  (low_any n _ ⟨h1, h2⟩).mono fun _ _ ⟨he, hm⟩ => ⟨he, k, hm.symm⟩

theorem get_no (v s n : Int) (w : World) (h : isF s n = false) :
    Calls Tryz.prog 190 #[.int .u32 v, .int .i64 s, .int .i64 n] w fun e w' => e = .returned (.int .u32 0) ∧ w = w' := by
  have H := Lib.hid h
  clear h
  go_enter Tryz.func190, Tryz.ntmps190
  go_wp2_with fail
  refine (isField_no s n _ H.out).mono ?_
  rintro e w1 ⟨rfl, rfl⟩
  go_wp2
  go_ret
  exact ⟨rfl, rfl⟩

theorem get_yes (v s n : Int) (w : World) (h : isF s n = true) (hv : 0 ≤ v ∧ v < 4294967296) :
    Calls Tryz.prog 190 #[.int .u32 v, .int .i64 s, .int .i64 n] w fun e w' => e = .returned (.int .u32 (fieldOf v s n)) ∧ Drew w w' := by
  have E := Lib.hid (get_bits h hv)
  obtain ⟨h1, h2, h3, h4, h5⟩ := isF_iff.1 h
  obtain ⟨h6, h7⟩ := hv
  have H := Lib.hid h
  clear h
  go_enter Tryz.func190, Tryz.ntmps190
  go_wp2_with fail
  refine (isField_yes s n _ H.out).mono ?_
  rintro e w1 ⟨rfl, rfl⟩
  go_wp2
  go_quiet ((exact low_quiet _ _ _ h3 h4))
  go_wp2
  go_ret
  exact ⟨congrArg (fun x => Ending.returned (.int .u32 x)) E.out, Drew.n _ _⟩

theorem get_any (v s n : Int) (w : World) (hv : 0 ≤ v ∧ v < 4294967296) :
    Calls Tryz.prog 190 #[.int .u32 v, .int .i64 s, .int .i64 n] w fun e w' => e = .returned (.int .u32 (getI v s n)) ∧ Drew w w' := by
  cases h : isF s n
  · refine (get_no v s n w h).mono fun e w' ⟨he, hw⟩ => ⟨?_, Drew.of_eq hw⟩
    rw [he]; simp [getI, h]
  · refine (get_yes v s n w h hv).mono fun e w' ⟨he, hw⟩ => ⟨?_, hw⟩
    rw [he]; simp [getI, h]

theorem get_range {v s n : Int} : 0 ≤ getI v s n ∧ getI v s n < 4294967296 := by
  unfold getI
  split
  · rename_i h; exact ⟨(field_bd v s n).1, field_lt32 h⟩
  · omega
end Go.Proofs.YtigdbokfapedcaaGreat
/- A list of whats that a run's calls leave; notes, one by one. -/
set_option linter.unusedVariables false
set_option linter.unusedSimpArgs false
namespace Go.Proofs.YtigdbokfapedcaaGreat
open Go.RowKit
/-- A list of whats, whatever a run's calls turn. -/
def Whats (B : Nat) (A : Option Addr) (w : World) (V : Value) (l : List Int) : Prop := ∃ (Z : Option Addr) (c : Nat), V = .slice Z l.length c ∧ ∀ w', Only (TurnB B A) w w' → ∀ i x, l[i]? = some x → ∃ b o, Z = some ⟨b, o, none⟩ ∧ w'.cell? ⟨b, o + i, none⟩ = some (.int .i64 x)
theorem Whats.move {B : Nat} {A : Option Addr} {w w' : World} {V : Value} {l : List Int} (h : Whats B A w V l) (ho : Only (TurnB B A) w w') : Whats B A w' V l := by
  obtain ⟨Z, c, e, h⟩ := h
  exact ⟨Z, c, e, fun w2 h2 => h w2 (ho.trans h2)⟩
theorem notes_len (l : List Int) : ∀ r : LS, (r.notes l).ns.length = r.ns.length + l.length := by
  induction l with
  | nil => intro r; rfl
  | cons x l ih =>
    intro r
    show ((r.note x 0).notes l).ns.length = _
    rw [ih]
    simp only [LS.note, List.length_append, List.length_cons, List.length_nil]
    omega
theorem notes_next {r : LS} {l : List Int} {k : Nat} {x : Int} (h : l[k]? = some x) : r.notes (l.take (k + 1)) = (r.notes (l.take k)).note x 0 := by
  unfold LS.notes
  rw [List.take_add_one, h, List.foldl_append]
  rfl

end Go.Proofs.YtigdbokfapedcaaGreat
/- Whats that a step makes. -/
set_option linter.unusedVariables false
set_option linter.unusedSimpArgs false
namespace Go.Proofs.YtigdbokfapedcaaGreat
open Go.RowKit
theorem whats_1 {B : Nat} {p A : Option Addr} {cp : Nat} {nv : Value} {r : LS} {w : World} (h : RunP w B p A cp nv r) (x : Int) : Whats B A (w.alloc (.cells #[.int .i64 x] 3)) (.slice (some ⟨w.heap.size, 0, none⟩) 1 1) [x] := by
  have h8 := h.keep ((Only.refl Nil w).alloc (.cells #[.int .i64 x] 3))
  have hr := Row.new w 3 #[.int .i64 x]
  exact ⟨_, _, rfl, fun w' ho i y hi => ⟨w.heap.size, 0, rfl, by
    match i, hi with
    | 0, hi => cases hi; exact (h8.aside hr ho aside_i).cell_ (i := 0) rfl
    | i + 1, hi => simp at hi⟩⟩
theorem whats_2 {B : Nat} {p A : Option Addr} {cp : Nat} {nv : Value} {r : LS} {w : World} (h : RunP w B p A cp nv r) (x z : Int) : Whats B A (w.alloc (.cells #[.int .i64 x, .int .i64 z] 3)) (.slice (some ⟨w.heap.size, 0, none⟩) 2 2) [x, z] := by
  have h8 := h.keep ((Only.refl Nil w).alloc (.cells #[.int .i64 x, .int .i64 z] 3))
  have hr := Row.new w 3 #[.int .i64 x, .int .i64 z]
  exact ⟨_, _, rfl, fun w' ho i y hi => ⟨w.heap.size, 0, rfl, by
    match i, hi with
    | 0, hi => cases hi; exact (h8.aside hr ho aside_i).cell_ (i := 0) rfl
    | 1, hi => cases hi; exact (h8.aside hr ho aside_i).cell_ (i := 1) rfl
    | i + 2, hi => simp at hi⟩⟩
end Go.Proofs.YtigdbokfapedcaaGreat
/- The cells of a lock's tasks: next, blocked. -/
namespace Go.Proofs.YtigdbokfapedcaaGreat
open Go.RowKit

theorem next_any (n i : Int) (w : World) :
    Calls Tryz.prog 255 #[.agg #[.int .i64 n], .int .i64 i] w fun e w' => e = .returned (.int .i64 (cellI n 0 i)) ∧ Only Nil w w' := by
  go_enter Tryz.func255, Tryz.ntmps255
  go_wp2_with fail
  refine (cell_row n 0 i _ (by omega)).mono ?_
  rintro e w1 ⟨rfl, hO⟩
  have HO := Lib.hid hO
  clear hO
  go_wp2
  go_ret
  exact ⟨rfl, (Only.alloc (Only.refl _ _) _).trans HO.out⟩

theorem blocked_any (n i : Int) (w : World) :
    Calls Tryz.prog 252 #[.agg #[.int .i64 n], .int .i64 i] w fun e w' => e = .returned (.int .i64 (cellI n 1 i)) ∧ Only Nil w w' := by
  go_enter Tryz.func252, Tryz.ntmps252
  go_wp2_with fail
  refine (cell_row n 1 i _ (by omega)).mono ?_
  rintro e w1 ⟨rfl, hO⟩
  have HO := Lib.hid hO
  clear hO
  go_wp2
  go_ret
  exact ⟨rfl, (Only.alloc (Only.refl _ _) _).trans HO.out⟩

end Go.Proofs.YtigdbokfapedcaaGreat
/- A run's calls, the program's: Swap. -/
set_option linter.unusedVariables false
set_option linter.unusedSimpArgs false
namespace Go.Proofs.YtigdbokfapedcaaGreat
open Go.RowKit

section
variable (B : Nat) (p A : Option Addr) (cp : Nat) (nv : Value) (r : LS) (c x y : Int) (w : World)
theorem swap_run (h : RunP w B p A cp nv r) : Calls Tryz.prog 279 #[.pointer (some ⟨B, 0, none⟩), .int .i64 c, .int .u32 x] w (Done B p A cp w (.int .u32 (wordAt r.xs c)) (r.doA 4 c x 0)) := by
  go_enter Tryz.func279, Tryz.ntmps279
  go_wp2_with fail
  refine (access_run B p A cp nv r 4 c x 0 0 _ h rfl).mono ?_
  rintro e w1 ⟨rfl, hO, hP⟩
  have HO := Lib.hid hO
  have HP := Lib.hid hP
  clear hO hP h
  go_wp2
  go_ret
  exact ⟨rfl, HO.out, nv, HP.out⟩
end
end Go.Proofs.YtigdbokfapedcaaGreat
