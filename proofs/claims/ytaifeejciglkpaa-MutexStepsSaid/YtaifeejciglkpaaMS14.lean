import Derived.Test.YtaifeejciglkpaaChecked
import Derived.Laws.StructEq
import Derived.BigQuiet
import Derived.Test.YtaifeejciglkpaaMS13
import Derived.Test.YtaifeejciglkpaaMS10
import Derived.Test.YtaifeejciglkpaaMS1
import Derived.Test.YtaifeejciglkpaaMS6
import Derived.Test.YtaifeejciglkpaaMS5
set_option linter.unusedVariables false
set_option linter.unusedSimpArgs false
namespace Go.Proofs.Ytaifeejciglkpaa
open Go.RowKit
structure RunR (w : World) (B base : Nat) (A : Option Addr) (l cp : Nat) (nv : Value) (r : LS) : Prop where
  row : Row w B 47 (r.cells (.slice A l cp) nv)
  notes : OwnN 0 w nv r.ns
  own : Own w base A cp r.xs
  len : r.xs.length = l
def DoneR (B base : Nat) (A : Option Addr) (l cp : Nat) (w : World) (v : Value) (r : LS) (e : Ending) (w' : World) : Prop :=
  e = .returned v ∧ Only (TurnB B A) w w' ∧ ∃ nv, RunR w' B base A l cp nv r
section
variable {w w' : World} {B base : Nat} {A : Option Addr} {l cp : Nat} {nv : Value} {r r' : LS} {ys : List Int} {S : Nat → Prop}
theorem RunR.far (h : RunR w B base A l cp nv r) {j : Nat} (hj : At A j) : j ≠ B := by
  rintro rfl
  obtain ⟨cur, hc⟩ := own_tag h.own hj
  exact absurd (h.row.same hc).1 (by decide)
theorem RunR.farN (h : RunR w B base A l cp nv r) {i : Nat} (hi : nv.ownBlock = some i) : i ≠ B ∧ ¬ At A i := by
  obtain ⟨cur, hc⟩ := ownN_tag h.notes hi
  refine ⟨?_, fun hj => ?_⟩
  · rintro rfl
    exact absurd (h.row.same hc).1 (by decide)
  · obtain ⟨cs, hr⟩ := own_tag h.own hj
    exact absurd (hr.same hc).1 (by decide)
theorem RunR.call (h : RunR w B base A l cp nv r) (ho : Only (At A) w w') (hm : Own w' base A cp ys) (hl : ys.length = l) : RunR w' B base A l cp nv { r with xs := ys } :=
  ⟨h.row.only ho (fun e => h.far e rfl), own_only h.notes ho (fun i hi e => (h.farN hi).2 e), hm, hl⟩
theorem RunR.apart (h : RunR w B base A l cp nv r) (ho : Only S w w') (hb : ¬ S B) (hm : ∀ j, At A j → ¬ S j) (hn : ∀ i, nv.ownBlock = some i → ¬ S i) : RunR w' B base A l cp nv r :=
  ⟨h.row.only ho hb, own_only h.notes ho hn, h.own.only ho hm, h.len⟩
theorem RunR.keep (h : RunR w B base A l cp nv r) (ho : Only Nil w w') : RunR w' B base A l cp nv r := h.apart ho id (fun _ _ => id) (fun _ _ => id)
theorem RunR.turn (h : RunR w B base A l cp nv r) (ho : Only (· = B) w w') (hr : Row w' B 47 (r'.cells (.slice A l cp) nv)) (hn : r'.ns = r.ns) (hx : r'.xs = r.xs) : RunR w' B base A l cp nv r' :=
  ⟨hr, by rw [hn]; exact own_only h.notes ho (fun i hi => (h.farN hi).1), by rw [hx]; exact h.own.only ho (fun j hj => h.far hj), by rw [hx]; exact h.len⟩
theorem RunR.setAcc (h : RunR w B base A l cp nv r) (a : Acc5) :
    RunR (((((w.setCell ⟨B, 14, none⟩ (.int .i64 a.k)).setCell ⟨B, 15, none⟩ (.int .i64 a.c)).setCell ⟨B, 16, none⟩ (.int .u32 a.x)).setCell ⟨B, 17, none⟩ (.int .u32 a.y)).setCell ⟨B, 18, none⟩ (.int .u32 a.o)) B base A l cp nv { r with acc := a } :=
  h.turn (set_acc_only (Only.refl (· = B) _) rfl _ _ _ _ _) (set_acc_row h.row a) rfl rfl
theorem RunR.setLine (h : RunR w B base A l cp nv r) (v : Int) : RunR (w.setCell ⟨B, 5, none⟩ (.int .i64 v)) B base A l cp nv (r.go v) :=
  h.turn ((Only.refl (· = B) w).setCell (p := ⟨B, 5, none⟩) (.inr rfl) _) (h.row.set 5 (.int .i64 v)) rfl rfl
theorem RunR.setS (h : RunR w B base A l cp nv r) (v : Int) : RunR (w.setCell ⟨B, 8, none⟩ (.int .i64 v)) B base A l cp nv { r with s := v } :=
  h.turn ((Only.refl (· = B) w).setCell (p := ⟨B, 8, none⟩) (.inr rfl) _) (h.row.set 8 (.int .i64 v)) rfl rfl
theorem RunR.setWake (h : RunR w B base A l cp nv r) (k : WkV) :
    RunR ((((w.setCell ⟨B, 9, none⟩ (.bool k.on)).setCell ⟨B, 10, none⟩ (.int .i64 k.c)).setCell ⟨B, 11, none⟩ (.int .i64 k.i)).setCell ⟨B, 12, none⟩ (.bool k.hit)) B base A l cp nv { r with k := k } :=
  h.turn (set_wake_only (Only.refl (· = B) w) rfl _ _ _ _) (set_wake_row h.row k) rfl rfl
theorem RunR.setNotes {v : Value} {zs : List Nt} (h : RunR w B base A l cp nv r) (hn : OwnN 0 w v zs) : RunR (w.setCell ⟨B, 19, none⟩ v) B base A l cp v { r with ns := zs } := by
  have ho := (Only.refl (· = B) w).setCell (p := ⟨B, 19, none⟩) (.inr rfl) v
  refine ⟨h.row.set 19 v, own_only hn ho (fun i hi => ?_), h.own.only ho (fun j hj => h.far hj), h.len⟩
  rintro rfl
  obtain ⟨cur, hc⟩ := ownN_tag hn hi
  exact absurd (h.row.same hc).1 (by decide)
end
set_option maxHeartbeats 1000000 in
theorem rdo_run (B base : Nat) (A : Option Addr) (l cp : Nat) (nv : Value) (r : LS) (k c x y : Int) (w : World) (h : RunR w B base A l cp nv r) (hk : isKind k = true) :
    Calls Try.prog 64 #[.pointer (some ⟨B, 0, none⟩), .int .i64 k, .int .i64 c, .int .u32 x, .int .u32 y] w fun e w' => e = .returned (.int .u32 (wordAt r.xs c)) ∧ Only (TurnB B A) w w' ∧ RunR w' B base A l cp nv (r.doA k c x y) := by
  have m0 : w.cell? ⟨B, 0, none⟩ = some (.slice A l cp) := h.row.cell_ (i := 0) rfl
  have HP := Lib.hid h
  have HW := Lib.hid (acc_old (xs := r.xs) (k := k) (c := c) (x := x) (y := y) hk)
  have HLN := Lib.hid ((doNew_len r.xs k c x y).trans h.len)
  have HD := Lib.hid (show r.doA k c x y = { r with acc := accI r.xs k c x y, xs := doNew r.xs k c x y } from rfl)
  have HV := Lib.hid (doVal_acc r.xs k c x y)
  clear h hk
  go_enter Try.func64, Try.ntmps64
  go_wp2_with fail
  clear m0
  refine (refdo_any base A l cp r.xs k c x y 0 _ HP.out.own HP.out.len).mono ?_
  rw [HV.out]
  clear HV
  generalize accI r.xs k c x y = ac at *
  rintro e w1 ⟨rfl, hO, hM⟩
  dsimp only [Acc5.v]
  have e0 := (Only.refl Nil w1).alloc (.cells #[.int .i64 ac.k, .int .i64 ac.c, .int .u32 ac.x, .int .u32 ac.y, .int .u32 ac.o] 40)
  have HP1 := Lib.hid ((HP.out.call hO hM HLN.out).keep e0)
  have HO1 := Lib.hid ((hO.turned2 (B := B)).alloc (.cells #[.int .i64 ac.k, .int .i64 ac.c, .int .u32 ac.x, .int .u32 ac.y, .int .u32 ac.o] 40))
  have HR1 := Lib.hid (Row.new w1 40 #[.int .i64 ac.k, .int .i64 ac.c, .int .u32 ac.x, .int .u32 ac.y, .int .u32 ac.o])
  have HBA := Lib.hid (show w1.heap.size ≠ B from fun e => by have := (HP.out.row.only hO (fun e => HP.out.far e rfl)).lt; omega)
  clear hO hM HP e0
  go_upto_region 2 with (fail)
  generalize w1.alloc (.cells #[.int .i64 ac.k, .int .i64 ac.c, .int .u32 ac.x, .int .u32 ac.y, .int .u32 ac.o] 40) = w2 at *
  generalize w1.heap.size = g at *
  have a0 : w2.cell? ⟨g, 0, none⟩ = some (.int .i64 ac.k) := HR1.out.cell_ (i := 0) rfl
  have a1 : w2.cell? ⟨g, 1, none⟩ = some (.int .i64 ac.c) := HR1.out.cell_ (i := 1) rfl
  have a2 : w2.cell? ⟨g, 2, none⟩ = some (.int .u32 ac.x) := HR1.out.cell_ (i := 2) rfl
  have a3 : w2.cell? ⟨g, 3, none⟩ = some (.int .u32 ac.y) := HR1.out.cell_ (i := 3) rfl
  have a4 : w2.cell? ⟨g, 4, none⟩ = some (.int .u32 ac.o) := HR1.out.cell_ (i := 4) rfl
  have b14 : w2.cell? ⟨B, 14, none⟩ = some (.int .i64 r.acc.k) := HP1.out.row.cell_ (i := 14) rfl
  have b15 : w2.cell? ⟨B, 15, none⟩ = some (.int .i64 r.acc.c) := HP1.out.row.cell_ (i := 15) rfl
  have b16 : w2.cell? ⟨B, 16, none⟩ = some (.int .u32 r.acc.x) := HP1.out.row.cell_ (i := 16) rfl
  have b17 : w2.cell? ⟨B, 17, none⟩ = some (.int .u32 r.acc.y) := HP1.out.row.cell_ (i := 17) rfl
  have b18 : w2.cell? ⟨B, 18, none⟩ = some (.int .u32 r.acc.o) := HP1.out.row.cell_ (i := 18) rfl
  have f14 : w2.frozen? ⟨B, 14, none⟩ = false := HP1.out.row.frozen 14
  have f15 : w2.frozen? ⟨B, 15, none⟩ = false := HP1.out.row.frozen 15
  have f16 : w2.frozen? ⟨B, 16, none⟩ = false := HP1.out.row.frozen 16
  have f17 : w2.frozen? ⟨B, 17, none⟩ = false := HP1.out.row.frozen 17
  have f18 : w2.frozen? ⟨B, 18, none⟩ = false := HP1.out.row.frozen 18
  go_upto_region 3 with (fail)
  clear a0 a1 a2 a3 a4 b14 b15 b16 b17 b18 f14 f15 f16 f17 f18
  have HP2 := Lib.hid (HP1.out.setAcc ac)
  have HO2 := Lib.hid (set_acc_only HO1.out (B := B) (.inl rfl) (.int .i64 ac.k) (.int .i64 ac.c) (.int .u32 ac.x) (.int .u32 ac.y) (.int .u32 ac.o))
  have HR2 := Lib.hid (HR1.out.only (set_acc_only (Only.refl (· = B) w2) rfl (.int .i64 ac.k) (.int .i64 ac.c) (.int .u32 ac.x) (.int .u32 ac.y) (.int .u32 ac.o)) HBA.out)
  clear HP1 HO1 HR1
  generalize (((((w2.setCell ⟨B, 14, none⟩ (.int .i64 ac.k)).setCell ⟨B, 15, none⟩ (.int .i64 ac.c)).setCell ⟨B, 16, none⟩ (.int .u32 ac.x)).setCell ⟨B, 17, none⟩ (.int .u32 ac.y)).setCell ⟨B, 18, none⟩ (.int .u32 ac.o)) = w3 at *
  have a4 : w3.cell? ⟨g, 4, none⟩ = some (.int .u32 ac.o) := HR2.out.cell_ (i := 4) rfl
  go_wp2
  go_ret
  exact ⟨by rw [← HW.out]; rfl, HO2.out, by rw [HD.out]; exact HP2.out⟩
section
variable (B base : Nat) (A : Option Addr) (l cp : Nat) (nv : Value) (r : LS) (c x y : Int) (w : World)
theorem rload_run (h : RunR w B base A l cp nv r) : Calls Try.prog 45 #[.pointer (some ⟨B, 0, none⟩), .int .i64 c] w (DoneR B base A l cp w (.int .u32 (wordAt r.xs c)) (r.doA 1 c 0 0)) := by
  go_enter Try.func45, Try.ntmps45
  go_wp2_with fail
  refine (rdo_run B base A l cp nv r 1 c 0 0 _ h rfl).mono ?_
  rintro e w1 ⟨rfl, hO, hP⟩
  have HO := Lib.hid hO
  have HP := Lib.hid hP
  clear hO hP h
  go_wp2
  go_ret
  exact ⟨rfl, HO.out, nv, HP.out⟩
theorem there_doNew (xs : List Int) (k a x y d : Int) : there (doNew xs k a x y) d = there xs d := by unfold there; rw [doNew_len]
theorem rcas_run (h : RunR w B base A l cp nv r) : Calls Try.prog 46 #[.pointer (some ⟨B, 0, none⟩), .int .i64 c, .int .u32 x, .int .u32 y] w (DoneR B base A l cp w (.bool (there r.xs c && (wordAt r.xs c == x))) (r.doA 5 c x y)) := by
  have HTT := Lib.hid (there_doNew r.xs 5 c x y c)
  cases hq : (wordAt r.xs c == x)
  · have HQ := Lib.hid hq
    clear hq
    rw [Bool.and_false]
    go_enter Try.func46, Try.ntmps46
    go_wp2_with fail
    refine (rdo_run B base A l cp nv r 5 c x y _ h rfl).mono ?_
    rintro e w1 ⟨rfl, hO, hP⟩
    have HO := Lib.hid hO
    have HP := Lib.hid hP
    have hq := HQ.out
    clear hO hP h
    generalize wordAt r.xs c = v at *
    go_wp2
    go_ret
    exact ⟨rfl, HO.out, nv, HP.out⟩
  · have HQ := Lib.hid hq
    clear hq
    rw [Bool.and_true]
    go_enter Try.func46, Try.ntmps46
    go_wp2_with fail
    refine (rdo_run B base A l cp nv r 5 c x y _ h rfl).mono ?_
    rintro e w1 ⟨rfl, hO, hP⟩
    have HO := Lib.hid hO
    have HP := Lib.hid hP
    have hq := HQ.out
    have m0 : w1.cell? ⟨B, 0, none⟩ = some (.slice A l cp) := hP.row.cell_ (i := 0) rfl
    have HLN := Lib.hid hP.len
    clear hO hP h
    generalize wordAt r.xs c = v at *
    go_wp2_with fail
    refine (there_any A l cp _ c HLN.out _).mono ?_
    rw [show there (r.doA 5 c x y).xs c = there r.xs c from HTT.out]
    rintro e w2 ⟨rfl, rfl⟩
    go_wp2
    go_ret
    exact ⟨rfl, HO.out, nv, HP.out⟩
end
theorem rwake_run (B base : Nat) (A : Option Addr) (l cp : Nat) (nv : Value) (r : LS) (c : Int) (w : World) (h : RunR w B base A l cp nv r) :
    Calls Try.prog 39 #[.pointer (some ⟨B, 0, none⟩), .int .i64 c] w (DoneR B base A l cp w (.tuple #[]) (r.wake c)) := by
  have c2 : w.cell? ⟨B, 2, none⟩ = some (.int .i64 r.mode) := h.row.cell_ (i := 2) rfl
  have HP := Lib.hid h
  clear h
  go_enter Try.func39, Try.ntmps39
  go_wp2_with fail
  clear c2
  refine (rbegin_any r.mode c _).mono ?_
  rintro e w1 ⟨rfl, hO⟩
  have HP1 := Lib.hid (HP.out.keep hO)
  have HO := Lib.hid (hO.mono (T := TurnB B A) (fun _ _ h => h.elim))
  clear hO HP
  have HD := Lib.hid (show r.wake c = { r with k := beginI r.mode c } from rfl)
  generalize beginI r.mode c = k at *
  dsimp only [WkV.v]
  have a9 : w1.cell? ⟨B, 9, none⟩ = some (.bool r.k.on) := HP1.out.row.cell_ (i := 9) rfl
  have a10 : w1.cell? ⟨B, 10, none⟩ = some (.int .i64 r.k.c) := HP1.out.row.cell_ (i := 10) rfl
  have a11 : w1.cell? ⟨B, 11, none⟩ = some (.int .i64 r.k.i) := HP1.out.row.cell_ (i := 11) rfl
  have a12 : w1.cell? ⟨B, 12, none⟩ = some (.bool r.k.hit) := HP1.out.row.cell_ (i := 12) rfl
  have f9 : w1.frozen? ⟨B, 9, none⟩ = false := HP1.out.row.frozen 9
  have f10 : w1.frozen? ⟨B, 10, none⟩ = false := HP1.out.row.frozen 10
  have f11 : w1.frozen? ⟨B, 11, none⟩ = false := HP1.out.row.frozen 11
  have f12 : w1.frozen? ⟨B, 12, none⟩ = false := HP1.out.row.frozen 12
  go_wp2
  clear a9 a10 a11 a12 f9 f10 f11 f12
  go_returns
  exact ⟨rfl, set_wake_only HO.out (.inl rfl) _ _ _ _, nv, by rw [HD.out]; exact HP1.out.setWake k⟩
end Go.Proofs.Ytaifeejciglkpaa
set_option linter.unusedVariables false
set_option linter.unusedSimpArgs false
namespace Go.Proofs.Ytaifeejciglkpaa
open Go.RowKit
def RowsL (w : World) (L : List (Nat × TypeId × Array Value)) : Prop := ∀ x ∈ L, Row w x.1 x.2.1 x.2.2
theorem RowsL.keep {w w' : World} {L : List (Nat × TypeId × Array Value)} (h : RowsL w L) (ho : Only Nil w w') : RowsL w' L := fun x hx => (h x hx).only ho id
theorem RowsL.cons {w : World} {L : List (Nat × TypeId × Array Value)} {g : Nat} {t : TypeId} {cs : Array Value} (h : RowsL w L) (hr : Row w g t cs) : RowsL w ((g, t, cs) :: L) := fun x hx => by
  rcases List.mem_cons.1 hx with rfl | hx
  · exact hr
  · exact h x hx
end Go.Proofs.Ytaifeejciglkpaa
set_option linter.unusedVariables false
set_option linter.unusedSimpArgs false
namespace Go.Proofs.Ytaifeejciglkpaa
open Go.RowKit
structure Two (w0 : World) (B B' M : Nat) (p A A2 : Option Addr) (cp l c2 : Nat) (nvp nvr : Value) (rp rr : LS) (W : World) : Prop where
  hp : RunP W B p A cp nvp rp
  hr : RunR W B' M A2 l c2 nvr rr
  only : Only Nil w0 W
  bB : w0.heap.size ≤ B
  bR : w0.heap.size ≤ B'
  bA : ∀ j, At p j ∨ At A j → w0.heap.size ≤ j ∧ j < M
  bM : w0.heap.size ≤ M
section
variable {w0 W W' : World} {B B' M : Nat} {p A A2 : Option Addr} {cp l c2 : Nat} {nvp nvr nvp' nvr' : Value} {rp rr rp' rr' : LS} {q : Nat} {t : TypeId} {cs : Array Value} {L : List (Nat × TypeId × Array Value)}
theorem Two.keep (h : Two w0 B B' M p A A2 cp l c2 nvp nvr rp rr W) (ho : Only Nil W W') : Two w0 B B' M p A A2 cp l c2 nvp nvr rp rr W' :=
  ⟨h.hp.keep ho, h.hr.keep ho, h.only.trans ho, h.bB, h.bR, h.bA, h.bM⟩
theorem Two.prog (h : Two w0 B B' M p A A2 cp l c2 nvp nvr rp rr W) (hq : Row W q t cs) (ho : Only (fun j => TurnB B A j ∨ j = q) W W') (h1 : t ≠ 47) (h2 : t ≠ 23) (h3 : t ≠ 92) (hq0 : w0.heap.size ≤ q) (hP : RunP W' B p A cp nvp' rp') :
    Two w0 B B' M p A A2 cp l c2 nvp' nvr rp' rr W' := by
  refine ⟨hP, h.hr.apart ho (fun e => ?_) (fun j hj e => ?_) (fun i hi e => ?_), h.only.step ho (fun i hi e => ?_), h.bB, h.bR, h.bA, h.bM⟩
  · rcases e with (e | e) | e
    · exact row_ne h.hr.row h.hp.row (by decide) e
    · exact memo_not h.hp.memo h.hr.row (by decide) (by decide) (.inr e)
    · exact h1 (by subst e; exact (hq.same h.hr.row).1)
  · obtain ⟨cur, hc⟩ := own_tag h.hr.own hj
    rcases e with (e | e) | e
    · exact row_ne hc h.hp.row (by decide) e
    · have := (h.bA j (.inr e)).2; have := h.hr.own.base j hj; omega
    · exact h2 (by subst e; exact (hq.same hc).1)
  · obtain ⟨cur, hc⟩ := ownN_tag h.hr.notes hi
    rcases e with (e | e) | e
    · exact row_ne hc h.hp.row (by decide) e
    · exact memo_not h.hp.memo hc (by decide) (by decide) (.inr e)
    · exact h3 (by subst e; exact (hq.same hc).1)
  · rcases e with (e | e) | e
    · have := h.bB; omega
    · have := (h.bA i (.inr e)).1; omega
    · omega
theorem Two.answ (h : Two w0 B B' M p A A2 cp l c2 nvp nvr rp rr W) (ho : Only (TurnB B' A2) W W') (hR : RunR W' B' M A2 l c2 nvr' rr') : Two w0 B B' M p A A2 cp l c2 nvp nvr' rp rr' W' := by
  refine ⟨h.hp.apart ho (fun e => ?_) (fun j hj e => ?_) (fun i hi e => ?_), hR, h.only.step ho (fun i hi e => ?_), h.bB, h.bR, h.bA, h.bM⟩
  · rcases e with e | e
    · exact row_ne h.hp.row h.hr.row (by decide) e
    · obtain ⟨cur, hc⟩ := own_tag h.hr.own e
      exact absurd (hc.same h.hp.row).1 (by decide)
  · rcases e with e | e
    · subst e; exact memo_not h.hp.memo h.hr.row (by decide) (by decide) hj
    · have := (h.bA j hj).2; have := h.hr.own.base j e; omega
  · obtain ⟨cur, hc⟩ := ownN_tag h.hp.notes hi
    rcases e with e | e
    · exact row_ne hc h.hr.row (by decide) e
    · obtain ⟨cur', hc'⟩ := own_tag h.hr.own e
      exact absurd (hc.same hc').1 (by decide)
  · rcases e with e | e
    · have := h.bR; omega
    · have := h.hr.own.base i e; have := h.bM; omega
theorem RowsL.prog (h : RowsL W L) (hp : RunP W B p A cp nvp rp) (hq : Row W q t cs) (ho : Only (fun j => TurnB B A j ∨ j = q) W W') (ht : ∀ x ∈ L, x.2.1 ≠ 43 ∧ x.2.1 ≠ 68 ∧ x.2.1 ≠ 23 ∧ x.2.1 ≠ t) : RowsL W' L := fun x hx =>
  (h x hx).only ho (fun e => by
    obtain ⟨h1, h2, h3, h4⟩ := ht x hx
    rcases e with (e | e) | e
    · exact row_ne (h x hx) hp.row h1 e
    · exact memo_not hp.memo (h x hx) h2 h3 (.inr e)
    · exact row_ne (h x hx) hq h4 e)
theorem RowsL.answ (h : RowsL W L) (hr : RunR W B' M A2 l c2 nvr rr) (ho : Only (TurnB B' A2) W W') (ht : ∀ x ∈ L, x.2.1 ≠ 47 ∧ x.2.1 ≠ 23) : RowsL W' L := fun x hx =>
  (h x hx).only ho (fun e => by
    obtain ⟨h1, h2⟩ := ht x hx
    rcases e with e | e
    · exact row_ne (h x hx) hr.row h1 e
    · obtain ⟨cur, hc⟩ := own_tag hr.own e
      exact h2 ((h x hx).same hc).1)
theorem RowsL.memo (h : RowsL W L) (hm : Memo W p A cp rp.xs) (ho : Only (At A) W W') (ht : ∀ x ∈ L, x.2.1 ≠ 68 ∧ x.2.1 ≠ 23) : RowsL W' L := fun x hx =>
  (h x hx).only ho (fun e => by
    obtain ⟨h1, h2⟩ := ht x hx
    exact memo_not hm (h x hx) h1 h2 (.inr e))
end
end Go.Proofs.Ytaifeejciglkpaa
namespace Go.Proofs.Ytaifeejciglkpaa
open Go.RowKit
def sameN (k c x y k' c' x' y' : Int) : Bool := k == k' && (c == c' && (x == x' && y == y'))
theorem sameN_iff {k c x y k' c' x' y' : Int} : sameN k c x y k' c' x' y' = true ↔ k = k' ∧ c = c' ∧ x = x' ∧ y = y' := by
  simp [sameN]
theorem neq_note (k c x y k' c' x' y' : Int) (W : World) : (binOp .neq 92 (.agg #[.int .i64 k, .int .i64 c, .int .i64 x, .int .i64 y]) (.agg #[.int .i64 k', .int .i64 c', .int .i64 x', .int .i64 y'])).run Try.prog W = .ok (.bool (!sameN k c x y k' c' x' y')) W := by
  simp [go_sem, sameN]
  by_cases h1 : k = k' <;> by_cases h2 : c = c' <;> by_cases h3 : x = x' <;> by_cases h4 : y = y' <;> simp [h1, h2, h3, h4]
end Go.Proofs.Ytaifeejciglkpaa
set_option linter.unusedVariables false
set_option linter.unusedSimpArgs false
namespace Go.Proofs.Ytaifeejciglkpaa
open Go.RowKit
theorem same_notes (v1 v2 : Value) (zs : List Nt) (w : World) (h1 : ListN w v1 zs) (h2 : ListN w v2 zs) (hm : zs.length ≤ 100) :
    Calls Try.prog 15 #[v1, v2] w fun e w' => e = .returned (.bool true) ∧ Only Nil w w' := by
  obtain ⟨A1, c1, rfl, hn1⟩ := h1
  obtain ⟨A2, c2, rfl, hn2⟩ := h2
  have H1 := Lib.hid hn1
  have H2 := Lib.hid hn2
  generalize hn : zs.length = n at *
  have HN := Lib.hid hn
  clear hn1 hn2 hn
  go_enter Try.func15, Try.ntmps15
  go_wp2
  go_loopw [5] (fun i wr => ∃ k : Nat, k ≤ n ∧ i = .int .i64 k ∧ Hid (Drew w wr)) (fun i _ => n - (intOf i).toNat)
  case atStart => exact ⟨0, Nat.zero_le _, rfl, Lib.hid (Drew.refl _)⟩
  case round =>
    obtain ⟨k, hk, rfl, HD⟩ := hrel
    by_cases hlt : k < n
    · obtain ⟨z, hzk⟩ : ∃ z, zs[k]? = some z := ⟨_, List.getElem?_eq_getElem (by rw [HN.out]; exact hlt)⟩
      obtain ⟨b, q, rfl, hb, hat⟩ := (H1.out.only HD.out.only) (by rw [HN.out]; omega)
      obtain ⟨b', q', rfl, hb', hat'⟩ := (H2.out.only HD.out.only) (by rw [HN.out]; omega)
      obtain ⟨f0, f1, f2, f3⟩ := hat k z hzk
      obtain ⟨g0, g1, g2, g3⟩ := hat' k z hzk
      have hq := fun W => (neq_note z.t z.w z.o z.a z.t z.w z.o z.a W).trans (by rw [sameN_iff.2 ⟨rfl, rfl, rfl, rfl⟩])
      clear hat hat' hzk
      go_wp2
      go_quiet (fail)
      go_wp2
      exact ⟨⟨k + 1, by omega, by go_num, Lib.hid (HD.out.trans (Drew.n _ _))⟩, by simp [intOf]; omega⟩
    · obtain rfl : k = n := by omega
      clear hlt hk
      go_wp2
      go_ret
      exact ⟨rfl, HD.out.only⟩
end Go.Proofs.Ytaifeejciglkpaa
set_option linter.unusedVariables false
set_option linter.unusedSimpArgs false
namespace Go.Proofs.Ytaifeejciglkpaa
open Go.RowKit
theorem all_any (b : Nat) (A : Option Addr) (c : Nat) (xs : List Int) (w : World) (h : Mem w b A c xs) :
    Calls Try.prog 17 #[.pointer (some ⟨b, 0, none⟩)] w fun e w' => ∃ A' c', e = .returned (.slice A' xs.length c') ∧ Own w' w.heap.size A' c' xs ∧ Only Nil w w' := by
  have hl := h.len
  have hc : w.cell? ⟨b, 0, none⟩ = some (.slice A xs.length c) := h.hdr.cell_ (i := 0) rfl
  have HH := Lib.hid h
  clear h
  go_enter Try.func17, Try.ntmps17
  go_wp2_with (go_at_call 21; refine (clone_held A xs.length c xs _ (by omega) HH.out.own.held).mono ?_; rintro e w1 ⟨A', c', rfl, ho, hO⟩)
  have HO := Lib.hid ho
  have HW := Lib.hid hO
  clear ho hO
  go_ret
  exact ⟨A', c', rfl, HO.out, HW.out⟩
theorem all_n (b : Nat) (A : Option Addr) (c n : Nat) (xs : List Int) (w : World) (h : Mem w b A c xs) (hn : xs.length = n) :
    Calls Try.prog 17 #[.pointer (some ⟨b, 0, none⟩)] w fun e w' => ∃ A' c', e = .returned (.slice A' n c') ∧ Own w' w.heap.size A' c' xs ∧ Only Nil w w' := by
  subst hn; exact all_any b A c xs w h
end Go.Proofs.Ytaifeejciglkpaa
namespace Go.Proofs.Ytaifeejciglkpaa
open Go.RowKit
theorem take_next {xs ys : List Int} {k : Nat} (hx : k < xs.length) (hy : k < ys.length) (h : xs.take k = ys.take k) (e : xs.getD k 0 = ys.getD k 0) : xs.take (k + 1) = ys.take (k + 1) := by
  rw [List.take_succ_eq_append_getElem hx, List.take_succ_eq_append_getElem hy, h]
  simp only [List.getD, List.getElem?_eq_getElem hx, List.getElem?_eq_getElem hy, Option.getD_some] at e
  rw [e]
theorem take_not {xs ys : List Int} {k : Nat} (e : xs.getD k 0 ≠ ys.getD k 0) : xs ≠ ys := by
  rintro rfl; exact e rfl
theorem same_len (A B : Option Addr) (c d : Nat) (xs ys : List Int) (w : World) (hl : xs.length ≠ ys.length) :
    Calls Try.prog 16 #[.slice A xs.length c, .slice B ys.length d] w fun e w' => e = .returned (.bool (decide (xs = ys))) ∧ Only Nil w w' := by
  have hne : xs ≠ ys := fun h => hl (by rw [h])
  have hl' : ((xs.length : Int) == (ys.length : Int)) = false := by simpa [Int.natCast_inj] using hl
  have HN := Lib.hid hne
  clear hne
  go_enter Try.func16, Try.ntmps16
  go_wp2
  go_ret
  exact ⟨by simp [HN.out], Only.refl _ _⟩
theorem same_any (A B : Option Addr) (c d : Nat) (xs ys : List Int) (w : World) (hx : Held w A xs.length c xs) (hy : Held w B ys.length d ys) (hm : xs.length ≤ 1048576) :
    Calls Try.prog 16 #[.slice A xs.length c, .slice B ys.length d] w fun e w' => e = .returned (.bool (decide (xs = ys))) ∧ Only Nil w w' := by
  by_cases hl : xs.length = ys.length
  · have hx3 := hx.2.2
    have hy3 := hy.2.2
    clear hx hy
    generalize hnx : xs.length = n at *
    have hny : ys.length = n := hl.symm
    rw [← hl]
    have HX := Lib.hid hx3
    have HY := Lib.hid hy3
    have HNX := Lib.hid hnx
    have HNY := Lib.hid hny
    clear hx3 hy3 hnx hny hl
    go_enter Try.func16, Try.ntmps16
    go_wp2
    go_loopw [5] (fun i wr => ∃ k : Nat, k ≤ n ∧ i = .int .i64 k ∧ xs.take k = ys.take k ∧ ∃ m, wr = w.drewN m) (fun i _ => n - (intOf i).toNat)
    case atStart => exact ⟨0, Nat.zero_le _, rfl, rfl, 0, rfl⟩
    case round =>
      obtain ⟨k, hk, rfl, ht, m, rfl⟩ := hrel
      have HT := Lib.hid ht
      clear ht
      by_cases hlt : k < n
      · obtain ⟨b1, o1, hA, _, hc1⟩ := HX.out (by rw [HNX.out]; omega)
        obtain ⟨b2, o2, hB, _, hc2⟩ := HY.out (by rw [HNY.out]; omega)
        subst hA hB
        have c1 := hc1 k (by rw [HNX.out]; omega)
        have c2 := hc2 k (by rw [HNY.out]; omega)
        clear hc1 hc2
        generalize h1 : xs.getD k 0 = x at *
        generalize h2 : ys.getD k 0 = y at *
        have H1 := Lib.hid h1
        have H2 := Lib.hid h2
        clear h1 h2
        go_wp2
        go_quiet (fail)
        go_wp2
        · have hxy : x ≠ y := by have h : (x != y) = true := by assumption
                                 simpa using h
          have hne : xs ≠ ys := take_not (k := k) (by rw [H1.out, H2.out]; exact hxy)
          go_ret
          exact ⟨by simp [hne], (((Only.refl _ _).drewN _).drewN _)⟩
        · have hxy : x = y := by have h : (x != y) = false := by assumption
                                 simpa using h
          exact ⟨⟨k + 1, by omega, by go_num, take_next (by rw [HNX.out]; omega) (by rw [HNY.out]; omega) HT.out (by rw [H1.out, H2.out]; exact hxy), _, rfl⟩, by simp [intOf]; omega⟩
      · have hkn : k = n := by omega
        subst hkn
        have heq : xs = ys := by
          have e := HT.out
          rwa [List.take_of_length_le (by rw [HNX.out]; omega), List.take_of_length_le (by rw [HNY.out]; omega)] at e
        have HE := Lib.hid heq
        clear heq
        go_wp2
        go_ret
        exact ⟨by simp [HE.out], (Only.refl _ _).drewN _⟩
  · exact same_len A B c d xs ys w hl
theorem same_n (A B : Option Addr) (c d n : Nat) (xs ys : List Int) (w : World) (hx : Held w A n c xs) (hy : Held w B n d ys) (hm : n ≤ 1048576) :
    Calls Try.prog 16 #[.slice A n c, .slice B n d] w fun e w' => e = .returned (.bool (decide (xs = ys))) ∧ Only Nil w w' := by
  have e1 := hx.1
  have e2 := hy.1
  have q := same_any A B c d xs ys w (by rw [e1]; exact hx) (by rw [e2]; exact hy) (by omega)
  rw [e1, e2] at q
  exact q
theorem Own.held_n {w : World} {base : Nat} {A : Option Addr} {c n : Nat} {xs : List Int} (h : Own w base A c xs) (hn : xs.length = n) : Held w A n c xs := by
  subst hn; exact h.held
end Go.Proofs.Ytaifeejciglkpaa
set_option linter.unusedVariables false
set_option linter.unusedSimpArgs false
namespace Go.Proofs.Ytaifeejciglkpaa
open Go.RowKit
theorem copy_nil (w : World) : Calls Try.prog 8 #[.slice none 0 0] w fun e w' => ∃ v, e = .returned v ∧ w'.ownsRow w.heap.size 23 1 v 0 [] ∧ Only Nil w w' := by
  obtain ⟨i0, hi, hz0, hz1, hz2⟩ := info_parts infoW
  go_enter Try.func8, Try.ntmps8
  go_wp2
  go_ret
  exact ⟨_, rfl, World.ownsRow_made w #[] 0 (Nat.le_refl _) (by decide) rfl, (Only.refl _ _).alloc _⟩
theorem copy_some (a : Addr) (n cap : Nat) (xs : List Int) (w : World) (hn : xs.length = n) (hm : n ≤ 1048576) (h : Ints w w.heap.size .u32 (some a) xs) :
    Calls Try.prog 8 #[.slice (some a) n cap] w fun e w' => ∃ v, e = .returned v ∧ w'.ownsRow w.heap.size 23 1 v n (xs.map (.int .u32)) ∧ Only Nil w w' := by
  obtain ⟨i0, hi, hz0, hz1, hz2⟩ := info_parts infoW
  go_enter Try.func8, Try.ntmps8
  go_wp2_with (at_builtin; refine wpList_append_own _ rfl (.tmp 3) (.tmp 4) 22 rfl w.heap.size 23 i0 (.int .u32 0) 1 4 Try.underlying22 hi hz0 hz1 hz2 rfl (by decide) _ 0 [] rfl (World.ownsRow_made w #[] 0 (Nat.le_refl _) (by decide) rfl) a n cap (xs.map (.int .u32)) rfl ?c0 ?c1 ?c2 ?c3 ?c4 ?c5 ?_)
  case c0 => simp [hn]
  case c1 => exact news_of (h.alloc (Nat.le_refl _) (.cells #[] 23))
  case c2 => exact one_of xs
  case c3 => unfold maxLen; omega
  case c4 => omega
  case c5 => simp
  intro v' w1 hown hgrow _
  have HO := Lib.hid hown
  have HG := Lib.hid hgrow
  clear hown hgrow
  go_wp2
  go_ret
  exact ⟨_, rfl, HO.out, ((Only.refl _ _).alloc _).grown HG.out (fun k hk => by simp only [Value.ownBlock, Option.some.injEq] at hk; left; omega)⟩
theorem copy_any (A : Option Addr) (n cap : Nat) (xs : List Int) (w : World) (hm : n ≤ 1048576) (h : Held w A n cap xs) :
    Calls Try.prog 8 #[.slice A n cap] w fun e w' => ∃ A' c', e = .returned (.slice A' xs.length c') ∧ Own w' w.heap.size A' c' xs ∧ Only Nil w w' := by
  obtain ⟨h1, h2, h3⟩ := h
  cases A with
  | none =>
    obtain ⟨rfl, rfl⟩ := h2 rfl
    obtain rfl : xs = [] := List.length_eq_zero_iff.1 h1
    refine (copy_nil w).mono fun e w' ⟨v, he, ho, hO⟩ => ?_
    obtain ⟨A', c', rfl, hw⟩ := Own.of (xs := []) ho
    exact ⟨A', c', he, hw, hO⟩
  | some a =>
    subst h1
    refine (copy_some a _ cap xs w rfl hm h3).mono fun e w' ⟨v, he, ho, hO⟩ => ?_
    obtain ⟨A', c', rfl, hw⟩ := Own.of ho
    exact ⟨A', c', he, hw, hO⟩
theorem copy_n (A : Option Addr) (n cap : Nat) (xs : List Int) (w : World) (hm : n ≤ 1048576) (h : Held w A n cap xs) :
    Calls Try.prog 8 #[.slice A n cap] w fun e w' => ∃ A' c', e = .returned (.slice A' n c') ∧ Own w' w.heap.size A' c' xs ∧ Only Nil w w' := by
  have e := h.1
  have q := copy_any A n cap xs w hm h
  rw [e] at q
  exact q
end Go.Proofs.Ytaifeejciglkpaa
set_option linter.unusedVariables false
set_option linter.unusedSimpArgs false
namespace Go.Proofs.Ytaifeejciglkpaa
open Go.RowKit
theorem Row.at {w : World} {t : TypeId} {cs : Array Value} {k : Nat} (h : w.heap.size = k) : Row (w.alloc (.cells cs t)) k t cs := by subst h; exact Row.new w t cs
set_option maxRecDepth 100000 in
set_option maxHeartbeats 1000000 in
theorem wait_run (B : Nat) (p A : Option Addr) (cp : Nat) (nv : Value) (r : LS) (c : Int) (F : Fn) (f1 f2 : Array Value) (q : Int → Bool) (w : World) (h : RunP w B p A cp nv r) (hf : Holds A w (.func F f1 f2) q) (hx : Words r.xs) :
    Calls Try.prog 31 #[.pointer (some ⟨B, 0, none⟩), .int .i64 c, .func F f1 f2] w (Done B p A cp w (.tuple #[.bool (r.stepR c q).seen, .bool (r.stepR c q).done]) (r.wait c q)) := by
  have e0 := (((((Only.refl Nil w).alloc (.cells #[.pointer (some ⟨B, 0, none⟩)] 36)).alloc (.cells #[.int .i64 c] 3)).alloc (.cells #[.func F f1 f2] 78)).alloc (.cells #[.bool false] 4)).alloc (.cells #[.bool false] 4)
  have HP : Hid (WB _ B p A cp nv w.heap.size c (.func F f1 f2) r false false) := Lib.hid ⟨h.keep e0, ((((Row.new w 36 #[.pointer (some ⟨B, 0, none⟩)]).alloc _).alloc _).alloc _).alloc _,
    (((Row.at (t := 3) (cs := #[.int .i64 c]) (by simp)).alloc _).alloc _).alloc _, ((Row.at (t := 78) (cs := #[.func F f1 f2]) (by simp)).alloc _).alloc _, (Row.at (t := 4) (cs := #[.bool false]) (by simp)).alloc _, Row.at (by simp)⟩
  have HO := Lib.hid (e0.mono (T := TurnB B A) (fun _ _ h => h.elim))
  have HF := Lib.hid (hf.move0 e0)
  have HX := Lib.hid hx
  clear h hf hx e0
  rw [show r.wait c q = { r with s := (r.stepR c q).next, acc := ofV (r.stepR c q).acc, xs := (r.stepR c q).xs } from rfl]
  generalize hst : r.stepR c q = t at *
  have HST := Lib.hid hst
  clear hst
  obtain ⟨nx, ac, sn, dn, zs⟩ := t
  dsimp only
  generalize hr2 : ({ r with s := nx, acc := ofV ac, xs := zs } : LS) = r2 at *
  have HR2 := Lib.hid hr2
  clear hr2
  go_enter Try.func31, Try.ntmps31
  go_upto_region 1 with (fail)
  generalize ((((w.alloc (.cells #[.pointer (some ⟨B, 0, none⟩)] 36)).alloc (.cells #[.int .i64 c] 3)).alloc (.cells #[.func F f1 f2] 78)).alloc (.cells #[.bool false] 4)).alloc (.cells #[.bool false] 4) = w1 at *
  generalize hgg : w.heap.size = g at *
  have HG := Lib.hid hgg
  clear hgg
  have a0 : w1.cell? ⟨g, 0, none⟩ = some (.pointer (some ⟨B, 0, none⟩)) := HP.out.r0.cell_ (i := 0) rfl
  go_wp2_with fail
  clear a0
  refine (wait_do B p A cp nv g c (.func F f1 f2) q r false false _ HP.out HF.out HX.out).mono ?_
  rw [HST.out]
  intro e w2 hF
  obtain ⟨rfl, hO, hP⟩ := hF
  dsimp only at hP
  rw [HR2.out] at hP
  have HP2 := Lib.hid hP
  have HO2 := Lib.hid (HO.out.step hO (fun i hi hd => by
    rcases hd with hd | hd | hd
    · exact hd
    · have := HG.out; omega
    · have := HG.out; omega))
  clear hO hP HP HO
  go_upto_region 4 with (fail)
  refine wp_region_phase (n := 4) 3 (fun w => w.cell? ⟨g + 3, 0, none⟩ = some (.bool sn) ∧ w.cell? ⟨g + 4, 0, none⟩ = some (.bool dn)) rfl (by kernel_rfl) ⟨HP2.out.r3.cell_ (i := 0) rfl, HP2.out.r4.cell_ (i := 0) rfl⟩ (fun hHeld => ?_)
  have HP3 := Lib.hid (HP2.out.keep (Only.refl Nil w2).drew)
  have HO3 := Lib.hid HO2.out.drew
  clear HP2 HO2
  generalize w2.drew = w3 at *
  refine mpt 0 rfl (.bool sn) (fun w hSw => ?_) ?_
  · (try dsimp only at hSw)
    go_split_ands
    go_simp
  (try simp only [Act.put, k1, k2, k3])
  refine mpt 1 rfl (.bool dn) (fun w hSw => ?_) ?_
  · (try dsimp only at hSw)
    go_split_ands
    go_simp
  (try simp only [Act.put, k1, k2, k3])
  have b3 : w3.cell? ⟨g + 1 + 1 + 1, 0, none⟩ = some (.bool sn) := HP3.out.r3.cell_ (i := 0) rfl
  have f3 : w3.frozen? ⟨g + 1 + 1 + 1, 0, none⟩ = false := HP3.out.r3.frozen 0
  refine mpc 2 rfl (by kernel_rfl) (by rfl) (fun K hK => ?_)
  go_simp
  have HP4 : Hid (WB (w3.setCell ⟨g + 1 + 1 + 1, 0, none⟩ (.bool sn)) B p A cp nv g c (.func F f1 f2) r2 sn dn) := Lib.hid (HP3.out.set3 sn)
  have HO4 := Lib.hid (HO3.out.setCell (p := ⟨g + 1 + 1 + 1, 0, none⟩) (.inl (by have := HG.out; show w.heap.size ≤ g + 1 + 1 + 1; omega)) (.bool sn))
  refine hK.out _ _ (.inr ⟨HP4.out.r3.cell_ (i := 0) rfl, HP4.out.r4.cell_ (i := 0) rfl⟩) ?_
  clear hK K hHeld b3 f3 HP3 HO3
  generalize w3.setCell ⟨g + 1 + 1 + 1, 0, none⟩ (.bool sn) = w4 at *
  (try simp only [Act.put, k1, k2, k3])
  have b3 : w4.cell? ⟨g + 1 + 1 + 1 + 1, 0, none⟩ = some (.bool dn) := HP4.out.r4.cell_ (i := 0) rfl
  have f3 : w4.frozen? ⟨g + 1 + 1 + 1 + 1, 0, none⟩ = false := HP4.out.r4.frozen 0
  refine mpc 3 rfl (by kernel_rfl) (by rfl) (fun K hK => ?_)
  go_simp
  have HP5 : Hid (WB (w4.setCell ⟨g + 1 + 1 + 1 + 1, 0, none⟩ (.bool dn)) B p A cp nv g c (.func F f1 f2) r2 sn dn) := Lib.hid (HP4.out.set4 dn)
  have HO5 := Lib.hid (HO4.out.setCell (p := ⟨g + 1 + 1 + 1 + 1, 0, none⟩) (.inl (by have := HG.out; show w.heap.size ≤ g + 1 + 1 + 1 + 1; omega)) (.bool dn))
  refine hK.out _ _ (.inl (by kernel_rfl)) ?_
  clear hK K b3 f3 HP4 HO4
  generalize w4.setCell ⟨g + 1 + 1 + 1 + 1, 0, none⟩ (.bool dn) = w5 at *
  (try simp only [Act.put, k1, k2, k3])
  refine wpAnyP_done (by kernel_rfl) ?_ _
  have b3 : w5.cell? ⟨g + 1 + 1 + 1, 0, none⟩ = some (.bool sn) := HP5.out.r3.cell_ (i := 0) rfl
  have b4 : w5.cell? ⟨g + 1 + 1 + 1 + 1, 0, none⟩ = some (.bool dn) := HP5.out.r4.cell_ (i := 0) rfl
  go_wp2
  exact bodyPost_ret (v := .tuple #[.bool sn, .bool dn]) (by simp [results, Try.results31, go_sem, b3, b4]) rfl ⟨rfl, HO5.out, nv, HP5.out.run⟩
end Go.Proofs.Ytaifeejciglkpaa
