/- RecP, Cells, Do, Do2, Clone, DoAny, PlaceC, ParkM, WaitM. -/
import Derived.Test.YtigdbokfapedcaaGreatChecked
import Derived.Laws.AppendOwnNone
import Derived.Deep.OwnRows
import Derived.Test.YtigdbokfapedcaaGreatB1
/- Who is within a call at the end, rising: in plain words; nothing here speaks of a program. -/
set_option linter.unusedVariables false
set_option linter.unusedSimpArgs false
namespace Go.Proofs.YtigdbokfapedcaaGreat
open Go
/-- Of task t the last call or return is a call. -/
def lastN (t : Int) (b : Bool) (x : Nt) : Bool := if x.t = t then (if x.w = 1 then true else if x.w = 11 then false else b) else b
def lastB (l : List Nt) (t : Int) : Bool := l.foldl (lastN t) false
theorem lastB_snoc (l : List Nt) (x : Nt) (t : Int) : lastB (l ++ [x]) t = lastN t (lastB l t) x := by unfold lastB; rw [List.foldl_append]; rfl
/-- Rising, each once. -/
def Rise (l : List Int) : Prop := l.Pairwise (· < ·)
theorem rise_ext : ∀ {a b : List Int}, Rise a → Rise b → (∀ x, x ∈ a ↔ x ∈ b) → a = b
  | [], [], _, _, _ => rfl
  | [], y :: b, _, _, h => absurd ((h y).2 List.mem_cons_self) (by simp)
  | x :: a, [], _, _, h => absurd ((h x).1 List.mem_cons_self) (by simp)
  | x :: a, y :: b, ha, hb, h => by
    obtain ⟨a1, a2⟩ := List.pairwise_cons.1 ha
    obtain ⟨b1, b2⟩ := List.pairwise_cons.1 hb
    have e : x = y := by
      rcases List.mem_cons.1 ((h x).1 List.mem_cons_self) with e | e
      · exact e
      · rcases List.mem_cons.1 ((h y).2 List.mem_cons_self) with e' | e'
        · exact e'.symm
        · have h1 := b1 x e
          have h2 := a1 y e'
          omega
    subst e
    rw [rise_ext a2 b2 (fun z => ⟨fun hz => ?_, fun hz => ?_⟩)]
    · rcases List.mem_cons.1 ((h z).1 (List.mem_cons_of_mem _ hz)) with rfl | hz'
      · exact absurd (a1 z hz) (by omega)
      · exact hz'
    · rcases List.mem_cons.1 ((h z).2 (List.mem_cons_of_mem _ hz)) with rfl | hz'
      · exact absurd (b1 z hz) (by omega)
      · exact hz'
/-- A number put in, if it isn't there. -/
def putR (t : Int) : List Int → List Int
  | [] => [t]
  | x :: l => if t < x then t :: x :: l else if t = x then x :: l else x :: putR t l
theorem mem_putR {t z : Int} : ∀ {l : List Int}, z ∈ putR t l ↔ z = t ∨ z ∈ l
  | [] => by simp [putR]
  | x :: l => by
    have ih := mem_putR (t := t) (z := z) (l := l)
    unfold putR
    split
    · simp
    · split
      · rename_i h; subst h; simp
      · simp only [List.mem_cons, ih]
        constructor
        · rintro (h | h | h)
          · exact .inr (.inl h)
          · exact .inl h
          · exact .inr (.inr h)
        · rintro (h | h | h)
          · exact .inr (.inl h)
          · exact .inl h
          · exact .inr (.inr h)
theorem putR_rise {t : Int} : ∀ {l : List Int}, Rise l → Rise (putR t l)
  | [], _ => List.pairwise_singleton _ _
  | x :: l, h => by
    obtain ⟨h1, h2⟩ := List.pairwise_cons.1 h
    unfold putR
    split
    · rename_i ht
      refine List.pairwise_cons.2 ⟨fun z hz => ?_, h⟩
      rcases List.mem_cons.1 hz with rfl | hz
      · exact ht
      · have := h1 z hz; omega
    · split
      · exact h
      · refine List.pairwise_cons.2 ⟨fun z hz => ?_, putR_rise h2⟩
        rcases mem_putR.1 hz with rfl | hz
        · omega
        · exact h1 z hz
/-- Those of these tasks that are within a call behind l. -/
def pendF (l : List Nt) (ts : List Nt) : List Int := ts.foldl (fun out x => if lastB l x.t then putR x.t out else out) []
theorem pendF_fold (l : List Nt) : ∀ (ts : List Nt) (out : List Int), Rise out → Rise (ts.foldl (fun out x => if lastB l x.t then putR x.t out else out) out) ∧ ∀ z, z ∈ ts.foldl (fun out x => if lastB l x.t then putR x.t out else out) out ↔ z ∈ out ∨ (lastB l z = true ∧ ∃ x ∈ ts, x.t = z)
  | [], out, h => ⟨h, fun z => by simp⟩
  | x :: ts, out, h => by
    rw [List.foldl_cons]
    by_cases hl : lastB l x.t = true
    · rw [if_pos hl]
      obtain ⟨h1, h2⟩ := pendF_fold l ts _ (putR_rise (t := x.t) h)
      refine ⟨h1, fun z => ?_⟩
      rw [h2, mem_putR]
      constructor
      · rintro ((rfl | h) | ⟨h, y, hy, e⟩)
        · exact .inr ⟨hl, x, List.mem_cons_self, rfl⟩
        · exact .inl h
        · exact .inr ⟨h, y, List.mem_cons_of_mem _ hy, e⟩
      · rintro (h | ⟨h, y, hy, e⟩)
        · exact .inl (.inr h)
        · rcases List.mem_cons.1 hy with rfl | hy
          · exact .inl (.inl e.symm)
          · exact .inr ⟨h, y, hy, e⟩
    · rw [if_neg hl]
      obtain ⟨h1, h2⟩ := pendF_fold l ts _ h
      refine ⟨h1, fun z => ?_⟩
      rw [h2]
      constructor
      · rintro (h | ⟨h, y, hy, e⟩)
        · exact .inl h
        · exact .inr ⟨h, y, List.mem_cons_of_mem _ hy, e⟩
      · rintro (h | ⟨h, y, hy, e⟩)
        · exact .inl h
        · rcases List.mem_cons.1 hy with rfl | hy
          · rw [e] at hl; exact absurd h hl
          · exact .inr ⟨h, y, hy, e⟩
def pendL (l : List Nt) : List Int := pendF l l
theorem last_there {t : Int} : ∀ (l : List Nt) (b : Bool), l.foldl (lastN t) b = true → b = true ∨ ∃ x ∈ l, x.t = t
  | [], b, h => .inl h
  | x :: l, b, h => by
    rw [List.foldl_cons] at h
    rcases last_there l _ h with h | ⟨y, hy, e⟩
    · unfold lastN at h
      split at h
      · rename_i e; exact .inr ⟨x, List.mem_cons_self, e⟩
      · exact .inl h
    · exact .inr ⟨y, List.mem_cons_of_mem _ hy, e⟩
theorem pend_rise (l : List Nt) : Rise (pendL l) := (pendF_fold l l [] List.Pairwise.nil).1
theorem mem_pend {l : List Nt} {z : Int} : z ∈ pendL l ↔ lastB l z = true := by
  rw [show (z ∈ pendL l) = _ from rfl, pendL, pendF, (pendF_fold l l [] List.Pairwise.nil).2]
  constructor
  · rintro (h | h)
    · simp at h
    · exact h.1
  · intro h
    rcases last_there l false h with h' | h'
    · exact absurd h' (by decide)
    · exact .inr ⟨h, h'⟩
/-- Whoever answers rising, each once, exactly these, answers this. -/
theorem pend_of {l : List Nt} {a : List Int} (h : Rise a) (hm : ∀ z, z ∈ a ↔ lastB l z = true) : a = pendL l := rise_ext h (pend_rise l) (fun z => (hm z).trans mem_pend.symm)
/-- In a history: those that are within an operation. -/
theorem hist_last {n t : Int} : ∀ (l pre : List Nt), Hist n (pre ++ l) → ∀ o b, (b = true ↔ o ≠ 0) → inOp pre t = o → (l.foldl (lastN t) b = true ↔ l.foldl (inN t) o ≠ 0)
  | [], _, _, o, b, h, _ => h
  | x :: l, pre, hh, o, b, h, e => by
    rw [List.foldl_cons, List.foldl_cons]
    refine hist_last l (pre ++ [x]) (by rw [List.append_assoc]; exact hh) _ _ ?_ (by rw [inOp_snoc, e])
    obtain ⟨_, _, _, _, hr⟩ := wrong_call (hh pre x l rfl)
    unfold lastN inN
    split
    · split
      · rename_i hw
        refine ⟨fun _ h0 => ?_, fun _ => rfl⟩
        rw [h0, hw] at hr
        simp [rightN, tripB, fitB, opOf, opWs, wordI] at hr
      · split
        · simp
        · exact h
    · exact h
theorem Hist.last {n t : Int} {l : List Nt} (h : Hist n l) : lastB l t = true ↔ inOp l t ≠ 0 := hist_last l [] h 0 false (by simp) rfl
end Go.Proofs.YtigdbokfapedcaaGreat
/- Contracts of package cells. -/
namespace Go.Proofs.YtigdbokfapedcaaGreat
open Go.RowKit

def leftOf (k x y o : Int) : Int := if k = 3 then (x + o) % 4294967296 else if k = 2 then x else if k = 4 then x else if k = 5 then (if o = x then y else o) else if k = 1 then o else 0
def isKind (k : Int) : Bool := decide (1 ≤ k ∧ k ≤ 5)

theorem two_eq {a b : Int} {c d : Bool} (h : a = b) (h' : c = d) : Ending.returned (.tuple #[.int .u32 a, .bool c]) = .returned (.tuple #[.int .u32 b, .bool d]) := by rw [h, h']

theorem behind_any (k c x y o : Int) (w : World) :
    Calls Tryz.prog 274 #[.agg #[.int .i64 k, .int .i64 c, .int .u32 x, .int .u32 y, .int .u32 o]] w fun e w' =>
      e = .returned (.tuple #[.int .u32 (leftOf k x y o), .bool (isKind k)]) ∧ Only Nil w w' := by
  by_cases h3 : k = 3 <;> by_cases h2 : k = 2 <;> by_cases h4 : k = 4 <;> by_cases h5 : k = 5 <;> by_cases h1 : k = 1 <;> by_cases hx : o = x
  all_goals first
    | omega
    | (go_enter Tryz.func274, Tryz.ntmps274
       go_wp2
       all_goals
         go_ret2
         exact ⟨two_eq (by simp [leftOf, h3, h2, h4, h5, h1, hx]) (by simp [isKind]; omega), (Only.refl _ _).alloc _⟩)

/-- The header of a memory: the pointer's block b holds one slice. -/
theorem len_any (b : Nat) (A : Option Addr) (n cap : Nat) (w : World) (h : Row w b 93 #[.slice A n cap]) :
    Calls Tryz.prog 273 #[.pointer (some ⟨b, 0, none⟩)] w fun e w' => e = .returned (.int .i64 n) ∧ w' = w := by
  have hc := h.cell_ (i := 0) rfl
  clear h
  go_enter Tryz.func273, Tryz.ntmps273
  go_wp2
  go_ret
  exact ⟨rfl, rfl⟩

theorem len_nil (w : World) :
    Calls Tryz.prog 273 #[.pointer none] w fun e w' => e = .returned (.int .i64 0) ∧ w' = w := by
  go_enter Tryz.func273, Tryz.ntmps273
  go_wp2
  go_ret
  exact ⟨rfl, rfl⟩

end Go.Proofs.YtigdbokfapedcaaGreat
/- Contract of (*Memory).Do. -/
namespace Go.Proofs.YtigdbokfapedcaaGreat
open Go.RowKit

/-- A cell that isn't there, and a nil memory: nothing is done. -/
theorem do_out (b : Nat) (A : Option Addr) (n cap : Nat) (k c x y o : Int) (w : World) (h : Row w b 93 #[.slice A n cap]) (hc : c < 0 ∨ (n : Int) ≤ c) :
    Calls Tryz.prog 244 #[.pointer (some ⟨b, 0, none⟩), .agg #[.int .i64 k, .int .i64 c, .int .u32 x, .int .u32 y, .int .u32 o]] w fun e w' =>
      e = .returned (.tuple #[.agg #[.int .i64 0, .int .i64 0, .int .u32 0, .int .u32 0, .int .u32 0], .bool false]) ∧ Only Nil w w' := by
  by_cases h0 : c < 0
  · clear h hc
    go_enter Tryz.func244, Tryz.ntmps244
    go_wp2
    go_quiet (fail)
    go_wp2
    go_returns
    exact ⟨rfl, by (repeat' (first | (with_reducible exact Only.refl _ _) | (with_reducible assumption) | (with_reducible refine Only.setCell ?_ ?_ _) | (with_reducible refine Only.drewN ?_ _) | (with_reducible refine Only.drew ?_) | (with_reducible refine Only.alloc ?_ _) | (left; simp; done) | (left; simp; omega) | (right; rfl)))⟩
  · have h1 : (n : Int) ≤ c := by omega
    have h2 : ∀ o1 o2, Row ((w.alloc o1).alloc o2) b 93 #[.slice A n cap] := fun o1 o2 => (h.alloc o1).alloc o2
    have H := Lib.hid h2
    clear h hc h2
    go_enter Tryz.func244, Tryz.ntmps244
    go_wp2
    go_quiet ((go_at_call 273; exact Calls.quiet_of_same (len_any b A n cap _ (H.out _ _))))
    go_wp2
    go_returns
    exact ⟨rfl, by (repeat' (first | (with_reducible exact Only.refl _ _) | (with_reducible assumption) | (with_reducible refine Only.setCell ?_ ?_ _) | (with_reducible refine Only.drewN ?_ _) | (with_reducible refine Only.drew ?_) | (with_reducible refine Only.alloc ?_ _) | (left; simp; done) | (left; simp; omega) | (right; rfl)))⟩

theorem do_nil (k c x y o : Int) (w : World) :
    Calls Tryz.prog 244 #[.pointer none, .agg #[.int .i64 k, .int .i64 c, .int .u32 x, .int .u32 y, .int .u32 o]] w fun e w' =>
      e = .returned (.tuple #[.agg #[.int .i64 0, .int .i64 0, .int .u32 0, .int .u32 0, .int .u32 0], .bool false]) ∧ Only Nil w w' := by
  by_cases h0 : c < 0
  · go_enter Tryz.func244, Tryz.ntmps244
    go_wp2
    go_quiet (fail)
    go_wp2
    go_returns
    exact ⟨rfl, by (repeat' (first | (with_reducible exact Only.refl _ _) | (with_reducible assumption) | (with_reducible refine Only.setCell ?_ ?_ _) | (with_reducible refine Only.drewN ?_ _) | (with_reducible refine Only.drew ?_) | (with_reducible refine Only.alloc ?_ _) | (left; simp; done) | (left; simp; omega) | (right; rfl)))⟩
  · have h1 : (0 : Int) ≤ c := by omega
    go_enter Tryz.func244, Tryz.ntmps244
    go_wp2
    go_quiet ((go_at_call 273; exact Calls.quiet_of_same (len_nil _)))
    go_wp2
    go_returns
    exact ⟨rfl, by (repeat' (first | (with_reducible exact Only.refl _ _) | (with_reducible assumption) | (with_reducible refine Only.setCell ?_ ?_ _) | (with_reducible refine Only.drewN ?_ _) | (with_reducible refine Only.drew ?_) | (with_reducible refine Only.alloc ?_ _) | (left; simp; done) | (left; simp; omega) | (right; rfl)))⟩
end Go.Proofs.YtigdbokfapedcaaGreat
/- Contract of (*Memory).Do at a cell that is there. -/
namespace Go.Proofs.YtigdbokfapedcaaGreat
open Go.RowKit

theorem do_in (b g n cap i : Nat) (cur : Array Value) (k x y o v : Int) (w : World) (h : Row w b 93 #[.slice (some ⟨g, 0, none⟩) n cap]) (hg : Row w g 22 cur)
    (hi : i < n) (hv : cur[i]? = some (.int .u32 v)) (hk : isKind k = true) :
    Calls Tryz.prog 244 #[.pointer (some ⟨b, 0, none⟩), .agg #[.int .i64 k, .int .i64 i, .int .u32 x, .int .u32 y, .int .u32 o]] w fun e w' =>
      e = .returned (.tuple #[.agg #[.int .i64 k, .int .i64 i, .int .u32 x, .int .u32 y, .int .u32 v], .bool true]) ∧ Only (· = g) w w' ∧ Row w' g 22 (cur.setIfInBounds i (.int .u32 (leftOf k x y v))) := by
  have h2 : ∀ o1 o2, Row ((w.alloc o1).alloc o2) b 93 #[.slice (some ⟨g, 0, none⟩) n cap] := fun o1 o2 => (h.alloc o1).alloc o2
  have H := Lib.hid h2
  have hlt := h.lt
  have hglt := hg.lt
  have hin : (i : Int) < n := by omega
  have h0 : ¬ (i : Int) < 0 := by omega
  have hc := h.cell_ (i := 0) rfl
  have hcv := hg.cell_ hv
  have HG := Lib.hid hg
  have HV := Lib.hid hv
  clear h h2 hv hg
  go_enter Tryz.func244, Tryz.ntmps244
  go_wp2
  go_quiet ((go_at_call 273; exact Calls.quiet_of_same (len_any b _ n cap _ (H.out _ _))))
  go_wp2
  go_region
  go_wp2_with fail
  refine (behind_any k i x y v _).mono ?_
  rintro e w1 ⟨rfl, ho⟩
  rw [hk]
  generalize hl : leftOf k x y v = lv
  have F0 : Row w1 w.heap.size 63 #[.int .i64 k, .int .i64 i, .int .u32 x, .int .u32 y, .int .u32 v] := ((((Row.new w _ _).alloc _).drewN _).set 4 _).only ho id
  have F1 : Row w1 (w.heap.size + 1) 63 #[.int .i64 0, .int .i64 0, .int .u32 0, .int .u32 0, .int .u32 0] := by
    have := ((Row.new (w.alloc (Obj.cells #[.int .i64 k, .int .i64 i, .int .u32 x, .int .u32 y, .int .u32 o] 63)) 63 #[.int .i64 0, .int .i64 0, .int .u32 0, .int .u32 0, .int .u32 0]).drewN (nq + 1))
    rw [show (w.alloc (Obj.cells #[.int .i64 k, .int .i64 i, .int .u32 x, .int .u32 y, .int .u32 o] 63)).heap.size = w.heap.size + 1 by simp] at this
    exact (this.far (by simp) _).only ho id
  have FB := ((((H.out _ _).drewN _).far (p := ⟨w.heap.size, 4, none⟩) (by show b ≠ w.heap.size; omega) _).only ho id)
  have FG := (((((HG.out.alloc _).alloc _).drewN _).far (p := ⟨w.heap.size, 4, none⟩) (by show g ≠ w.heap.size; omega) _).only ho id)
  have OW : Only Nil w w1 := Only.trans (by (repeat' (first | (with_reducible exact Only.refl _ _) | (with_reducible assumption) | (with_reducible refine Only.setCell ?_ ?_ _) | (with_reducible refine Only.drewN ?_ _) | (with_reducible refine Only.drew ?_) | (with_reducible refine Only.alloc ?_ _) | (left; simp; done) | (left; simp; omega) | (right; rfl)))) ho
  clear ho hcv hc
  have hs1 : w.heap.size + 1 < w1.heap.size := F1.lt
  have c0 : w1.cell? ⟨w.heap.size, 0, none⟩ = some (.int .i64 k) := F0.cell_ (i := 0) rfl
  have c1 : w1.cell? ⟨w.heap.size, 1, none⟩ = some (.int .i64 i) := F0.cell_ (i := 1) rfl
  have c2 : w1.cell? ⟨w.heap.size, 2, none⟩ = some (.int .u32 x) := F0.cell_ (i := 2) rfl
  have c3 : w1.cell? ⟨w.heap.size, 3, none⟩ = some (.int .u32 y) := F0.cell_ (i := 3) rfl
  have c4 : w1.cell? ⟨w.heap.size, 4, none⟩ = some (.int .u32 v) := F0.cell_ (i := 4) rfl
  have d0 : w1.cell? ⟨w.heap.size + 1, 0, none⟩ = some (.int .i64 0) := F1.cell_ (i := 0) rfl
  have d1 : w1.cell? ⟨w.heap.size + 1, 1, none⟩ = some (.int .i64 0) := F1.cell_ (i := 1) rfl
  have d2 : w1.cell? ⟨w.heap.size + 1, 2, none⟩ = some (.int .u32 0) := F1.cell_ (i := 2) rfl
  have d3 : w1.cell? ⟨w.heap.size + 1, 3, none⟩ = some (.int .u32 0) := F1.cell_ (i := 3) rfl
  have d4 : w1.cell? ⟨w.heap.size + 1, 4, none⟩ = some (.int .u32 0) := F1.cell_ (i := 4) rfl
  have e0 : w1.frozen? ⟨w.heap.size + 1, 0, none⟩ = false := F1.frozen 0
  have e1 : w1.frozen? ⟨w.heap.size + 1, 1, none⟩ = false := F1.frozen 1
  have e2 : w1.frozen? ⟨w.heap.size + 1, 2, none⟩ = false := F1.frozen 2
  have e3 : w1.frozen? ⟨w.heap.size + 1, 3, none⟩ = false := F1.frozen 3
  have e4 : w1.frozen? ⟨w.heap.size + 1, 4, none⟩ = false := F1.frozen 4
  have b0 : w1.cell? ⟨b, 0, none⟩ = some (.slice (some ⟨g, 0, none⟩) n cap) := FB.cell_ (i := 0) rfl
  have g0 := FG.cell_ HV.out
  have g1 := FG.frozen i
  have HB := Lib.hid FB
  have HG1 := Lib.hid FG
  have H0 := Lib.hid F0
  have H1 := Lib.hid F1
  have HO := Lib.hid OW
  have HL := Lib.hid hl
  clear FB FG F0 F1 OW hl
  go_wp2
  go_region
  all_goals go_wp2
  refine post_row_tmp (P := Tryz.prog) Tryz.results244 (t := 63) (g := w.heap.size + 1) (cs := #[.int .i64 k, .int .i64 i, .int .u32 x, .int .u32 y, .int .u32 v]) rfl ?_ Tryz.underlying63 rfl (by kernel_rfl) rfl ⟨rfl, ?_, ?_⟩
  · exact ((((((H1.out.far (p := ⟨g, i, none⟩) (by show w.heap.size + 1 ≠ g; omega) (.int .u32 lv)).set 0 (.int .i64 k)).set 1 (.int .i64 i)).set 2 (.int .u32 x)).set 3 (.int .u32 y)).set 4 (.int .u32 v)).drew
  · have O1 : Only (· = g) w w1 := HO.out.mono (fun _ _ h => h.elim)
    (repeat' (first | (with_reducible exact Only.refl _ _) | (with_reducible assumption) | (with_reducible refine Only.setCell ?_ ?_ _) | (with_reducible refine Only.drewN ?_ _) | (with_reducible refine Only.drew ?_) | (with_reducible refine Only.alloc ?_ _) | (left; simp; done) | (left; simp; omega) | (right; rfl)))
  · rw [HL.out]
    exact ((((((HG1.out.set i (.int .u32 lv)).far (p := ⟨w.heap.size + 1, 0, none⟩) (by show g ≠ w.heap.size + 1; omega) _).far (p := ⟨w.heap.size + 1, 1, none⟩) (by show g ≠ w.heap.size + 1; omega) _).far (p := ⟨w.heap.size + 1, 2, none⟩) (by show g ≠ w.heap.size + 1; omega) _).far (p := ⟨w.heap.size + 1, 3, none⟩) (by show g ≠ w.heap.size + 1; omega) _).far (p := ⟨w.heap.size + 1, 4, none⟩) (by show g ≠ w.heap.size + 1; omega) _).drew

/-- A kind that is none: nothing is done. -/
theorem do_bad (b g n cap i : Nat) (cur : Array Value) (k x y o v : Int) (w : World) (h : Row w b 93 #[.slice (some ⟨g, 0, none⟩) n cap]) (hg : Row w g 22 cur)
    (hi : i < n) (hv : cur[i]? = some (.int .u32 v)) (hk : isKind k = false) :
    Calls Tryz.prog 244 #[.pointer (some ⟨b, 0, none⟩), .agg #[.int .i64 k, .int .i64 i, .int .u32 x, .int .u32 y, .int .u32 o]] w fun e w' =>
      e = .returned (.tuple #[.agg #[.int .i64 0, .int .i64 0, .int .u32 0, .int .u32 0, .int .u32 0], .bool false]) ∧ Only Nil w w' := by
  have h2 : ∀ o1 o2, Row ((w.alloc o1).alloc o2) b 93 #[.slice (some ⟨g, 0, none⟩) n cap] := fun o1 o2 => (h.alloc o1).alloc o2
  have H := Lib.hid h2
  have hlt := h.lt
  have hglt := hg.lt
  have hin : (i : Int) < n := by omega
  have h0 : ¬ (i : Int) < 0 := by omega
  have hc := h.cell_ (i := 0) rfl
  have hcv := hg.cell_ hv
  have HG := Lib.hid hg
  have HV := Lib.hid hv
  clear h h2 hv hg
  go_enter Tryz.func244, Tryz.ntmps244
  go_wp2
  go_quiet ((go_at_call 273; exact Calls.quiet_of_same (len_any b _ n cap _ (H.out _ _))))
  go_wp2
  go_region
  go_wp2_with fail
  refine (behind_any k i x y v _).mono ?_
  rintro e w1 ⟨rfl, ho⟩
  rw [hk]
  generalize hl : leftOf k x y v = lv
  have F0 : Row w1 w.heap.size 63 #[.int .i64 k, .int .i64 i, .int .u32 x, .int .u32 y, .int .u32 v] := ((((Row.new w _ _).alloc _).drewN _).set 4 _).only ho id
  have F1 : Row w1 (w.heap.size + 1) 63 #[.int .i64 0, .int .i64 0, .int .u32 0, .int .u32 0, .int .u32 0] := by
    have := ((Row.new (w.alloc (Obj.cells #[.int .i64 k, .int .i64 i, .int .u32 x, .int .u32 y, .int .u32 o] 63)) 63 #[.int .i64 0, .int .i64 0, .int .u32 0, .int .u32 0, .int .u32 0]).drewN (nq + 1))
    rw [show (w.alloc (Obj.cells #[.int .i64 k, .int .i64 i, .int .u32 x, .int .u32 y, .int .u32 o] 63)).heap.size = w.heap.size + 1 by simp] at this
    exact (this.far (by simp) _).only ho id
  have FB := ((((H.out _ _).drewN _).far (p := ⟨w.heap.size, 4, none⟩) (by show b ≠ w.heap.size; omega) _).only ho id)
  have FG := (((((HG.out.alloc _).alloc _).drewN _).far (p := ⟨w.heap.size, 4, none⟩) (by show g ≠ w.heap.size; omega) _).only ho id)
  have OW : Only Nil w w1 := Only.trans (by (repeat' (first | (with_reducible exact Only.refl _ _) | (with_reducible assumption) | (with_reducible refine Only.setCell ?_ ?_ _) | (with_reducible refine Only.drewN ?_ _) | (with_reducible refine Only.drew ?_) | (with_reducible refine Only.alloc ?_ _) | (left; simp; done) | (left; simp; omega) | (right; rfl)))) ho
  clear ho hcv hc
  have hs1 : w.heap.size + 1 < w1.heap.size := F1.lt
  have c0 : w1.cell? ⟨w.heap.size, 0, none⟩ = some (.int .i64 k) := F0.cell_ (i := 0) rfl
  have c1 : w1.cell? ⟨w.heap.size, 1, none⟩ = some (.int .i64 i) := F0.cell_ (i := 1) rfl
  have c2 : w1.cell? ⟨w.heap.size, 2, none⟩ = some (.int .u32 x) := F0.cell_ (i := 2) rfl
  have c3 : w1.cell? ⟨w.heap.size, 3, none⟩ = some (.int .u32 y) := F0.cell_ (i := 3) rfl
  have c4 : w1.cell? ⟨w.heap.size, 4, none⟩ = some (.int .u32 v) := F0.cell_ (i := 4) rfl
  have d0 : w1.cell? ⟨w.heap.size + 1, 0, none⟩ = some (.int .i64 0) := F1.cell_ (i := 0) rfl
  have d1 : w1.cell? ⟨w.heap.size + 1, 1, none⟩ = some (.int .i64 0) := F1.cell_ (i := 1) rfl
  have d2 : w1.cell? ⟨w.heap.size + 1, 2, none⟩ = some (.int .u32 0) := F1.cell_ (i := 2) rfl
  have d3 : w1.cell? ⟨w.heap.size + 1, 3, none⟩ = some (.int .u32 0) := F1.cell_ (i := 3) rfl
  have d4 : w1.cell? ⟨w.heap.size + 1, 4, none⟩ = some (.int .u32 0) := F1.cell_ (i := 4) rfl
  have e0 : w1.frozen? ⟨w.heap.size + 1, 0, none⟩ = false := F1.frozen 0
  have e1 : w1.frozen? ⟨w.heap.size + 1, 1, none⟩ = false := F1.frozen 1
  have e2 : w1.frozen? ⟨w.heap.size + 1, 2, none⟩ = false := F1.frozen 2
  have e3 : w1.frozen? ⟨w.heap.size + 1, 3, none⟩ = false := F1.frozen 3
  have e4 : w1.frozen? ⟨w.heap.size + 1, 4, none⟩ = false := F1.frozen 4
  have b0 : w1.cell? ⟨b, 0, none⟩ = some (.slice (some ⟨g, 0, none⟩) n cap) := FB.cell_ (i := 0) rfl
  have g0 := FG.cell_ HV.out
  have g1 := FG.frozen i
  have HB := Lib.hid FB
  have HG1 := Lib.hid FG
  have H0 := Lib.hid F0
  have H1 := Lib.hid F1
  have HO := Lib.hid OW
  have HL := Lib.hid hl
  clear FB FG F0 F1 OW hl
  go_wp2
  refine post_row_tmp (P := Tryz.prog) Tryz.results244 (t := 63) (g := w.heap.size + 1) (cs := #[.int .i64 0, .int .i64 0, .int .u32 0, .int .u32 0, .int .u32 0]) rfl ?_ Tryz.underlying63 rfl (by kernel_rfl) rfl ⟨rfl, ?_⟩
  · exact ((((((H1.out.set 0 (.int .i64 0)).set 1 (.int .i64 0)).set 2 (.int .u32 0)).set 3 (.int .u32 0)).set 4 (.int .u32 0)))
  · have O1 : Only Nil w w1 := HO.out
    (repeat' (first | (with_reducible exact Only.refl _ _) | (with_reducible assumption) | (with_reducible refine Only.setCell ?_ ?_ _) | (with_reducible refine Only.drewN ?_ _) | (with_reducible refine Only.drew ?_) | (with_reducible refine Only.alloc ?_ _) | (left; simp; done) | (left; simp; omega) | (right; rfl)))
end Go.Proofs.YtigdbokfapedcaaGreat
/- Contracts of slices.Clone at []uint32, of cells.From, cells.New, (*Memory).All and of the answer's Copy. -/
namespace Go.Proofs.YtigdbokfapedcaaGreat
open Go.RowKit

theorem infoW : (Tryz.prog.info? 22).map (fun i => (i.zero, i.size, i.bytes)) = some (some (.int .u32 0), 1, 4) := by kernel_rfl

theorem news_of {w : World} {B : Nat} {k : IntKind} {a : Addr} {xs : List Int} (h : Ints w B k (some a) xs) : ∀ j u, (xs.map (Value.int k))[j]? = some u → w.cell? (a.add j) = some u := by
  intro j u hu
  rw [List.getElem?_map] at hu
  have hj : j < xs.length := by
    rcases Nat.lt_or_ge j xs.length with hj | hj
    · exact hj
    · rw [List.getElem?_eq_none hj] at hu; cases hu
  obtain ⟨b, o, ha, _, hc⟩ := h (by omega)
  injection ha with ha
  subst ha
  rw [add_at, hc j hj]
  rw [List.getElem?_eq_getElem hj] at hu
  simp only [Option.map_some, Option.some.injEq] at hu
  rw [← hu]
  simp [List.getD, List.getElem?_eq_getElem hj]

theorem one_of {k : IntKind} (xs : List Int) : ∀ u ∈ xs.map (Value.int k), u.oneCell' = true := by
  intro u hu
  simp only [List.mem_map] at hu
  obtain ⟨z, _, rfl⟩ := hu
  rfl

theorem clone_nil (w : World) : Calls Tryz.prog 35 #[.slice none 0 0] w fun e w' => e = .returned (.slice none 0 0) ∧ w' = w := by
  have hq := fun (w : World) (a : Option Addr) (n c : Nat) => Lib.run_eql_slice_nil (P := Tryz.prog) w 45 22 a n c 0 0 Tryz.underlying45
  go_enter Tryz.func35, Tryz.ntmps35
  go_wp2
  go_ret
  exact ⟨rfl, rfl⟩

theorem clone_any (a : Addr) (n cap : Nat) (xs : List Int) (w : World) (hn : xs.length = n) (hm : n ≤ 1048576) (h : Ints w w.heap.size .u32 (some a) xs) :
    Calls Tryz.prog 35 #[.slice (some a) n cap] w fun e w' => ∃ v, e = .returned v ∧ w'.ownsRow w.heap.size 22 1 v n (xs.map (.int .u32)) ∧ Only Nil w w' := by
  have hq := fun (w : World) (a : Option Addr) (n c : Nat) => Lib.run_eql_slice_nil (P := Tryz.prog) w 45 22 a n c 0 0 Tryz.underlying45
  obtain ⟨i0, hi, hz0, hz1, hz2⟩ := info_parts infoW
  go_enter Tryz.func35, Tryz.ntmps35
  go_wp2_with (at_builtin; refine wpList_append_own _ rfl (.tmp 5) (.tmp 6) 45 rfl w.heap.size 22 i0 (.int .u32 0) 1 4 Tryz.underlying45 hi hz0 hz1 hz2 rfl (by decide) _ 0 [] rfl (World.ownsRow_made w #[] 0 (Nat.le_refl _) (by decide) rfl) a n cap (xs.map (.int .u32)) rfl ?c0 ?c1 ?c2 ?c3 ?c4 ?c5 ?_)
  case c0 => simp [hn]
  case c1 => exact news_of (h.alloc (Nat.le_refl _) (.cells #[] 22))
  case c2 => exact one_of xs
  case c3 => unfold maxLen; omega
  case c4 => omega
  case c5 => simp
  intro v' w1 hown hgrow _
  have HO := Lib.hid hown
  have HG := Lib.hid hgrow
  clear hown hgrow
  go_wp2
  go_ret
  exact ⟨_, rfl, HO.out, ((Only.refl _ _).alloc _).grown HG.out (fun k hk => by simp only [Value.ownBlock, Option.some.injEq] at hk; left; omega)⟩

/-- What a list of words in the caller's hands looks like: nil, or somewhere. -/
def Held (w : World) (A : Option Addr) (n cap : Nat) (xs : List Int) : Prop := xs.length = n ∧ (A = none → n = 0 ∧ cap = 0) ∧ Ints w w.heap.size .u32 A xs

theorem Held.only {w w' : World} {A : Option Addr} {n cap : Nat} {xs : List Int} (h : Held w A n cap xs) {S : Nat → Prop} (ho : Only S w w') (hS : ∀ i, i < w.heap.size → ¬ S i) : Held w' A n cap xs :=
  ⟨h.1, h.2.1, (h.2.2.only ho (Nat.le_refl _) hS).more ho.size⟩

/-- The blocks that a slice at A lies in. -/
def At (A : Option Addr) : Nat → Prop := fun i => ∃ a, A = some a ∧ a.block = i

theorem own_form {w : World} {base : Nat} {e : TypeId} {size : Nat} {v : Value} {n : Nat} {vs : List Value} (h : w.ownsRow base e size v n vs) : ∃ A c, v = .slice A n c ∧ (A = none → n = 0 ∧ c = 0) ∧ ∀ i, At A i → base ≤ i := by
  rcases h.2 with ⟨hv, h0⟩ | ⟨g, cap, cur, hv, hb, _⟩
  · subst h0
    exact ⟨none, 0, hv, fun _ => ⟨rfl, rfl⟩, fun i ⟨a, ha, _⟩ => by cases ha⟩
  · exact ⟨some ⟨g, 0, none⟩, cap, hv, (by intro h; cases h), fun i ⟨a, ha, hi⟩ => by injection ha with ha; subst ha; subst hi; exact hb⟩

theorem own_base {w : World} {base base' : Nat} {e : TypeId} {size : Nat} {v : Value} {n : Nat} {vs : List Value} (h : w.ownsRow base e size v n vs) (hb : base' ≤ base) : w.ownsRow base' e size v n vs := by
  refine ⟨h.1, ?_⟩
  rcases h.2 with hn | ⟨g, cap, cur, hv, hb2, rest⟩
  · exact .inl hn
  · exact .inr ⟨g, cap, cur, hv, by omega, rest⟩

/-- A list of words of the call's own: what append has left. -/
structure Own (w : World) (base : Nat) (A : Option Addr) (c : Nat) (xs : List Int) : Prop where
  own : w.ownsRow base 22 1 (.slice A xs.length c) xs.length (xs.map (.int .u32))
  nil : A = none → xs.length = 0 ∧ c = 0
  base : ∀ i, At A i → base ≤ i

theorem Own.of {w : World} {base : Nat} {v : Value} {xs : List Int} (h : w.ownsRow base 22 1 v xs.length (xs.map (.int .u32))) : ∃ A c, v = .slice A xs.length c ∧ Own w base A c xs := by
  obtain ⟨A, c, rfl, h1, h2⟩ := own_form h
  exact ⟨A, c, rfl, h, h1, h2⟩

theorem Own.only {w w' : World} {base : Nat} {A : Option Addr} {c : Nat} {xs : List Int} {S : Nat → Prop} (h : Own w base A c xs) (ho : Only S w w') (hS : ∀ i, At A i → ¬ S i) : Own w' base A c xs :=
  ⟨own_only h.own ho (fun i hi => hS i (by
    cases A with
    | none => simp [Value.ownBlock] at hi
    | some a => simp only [Value.ownBlock, Option.some.injEq] at hi; exact ⟨a, rfl, hi⟩)), h.nil, h.base⟩

theorem Own.held {w : World} {base : Nat} {A : Option Addr} {c : Nat} {xs : List Int} (h : Own w base A c xs) : Held w A xs.length c xs := ⟨rfl, h.nil, Ints.of_own h.own⟩

theorem Own.lt {w : World} {base : Nat} {A : Option Addr} {c : Nat} {xs : List Int} (h : Own w base A c xs) : ∀ i, At A i → i < w.heap.size := fun i ⟨a, ha, hi⟩ => (h.own.lt i (by rw [ha]; simp [Value.ownBlock, hi])).2

theorem clone_held (A : Option Addr) (n cap : Nat) (xs : List Int) (w : World) (hm : n ≤ 1048576) (h : Held w A n cap xs) :
    Calls Tryz.prog 35 #[.slice A n cap] w fun e w' => ∃ A' c', e = .returned (.slice A' xs.length c') ∧ Own w' w.heap.size A' c' xs ∧ Only Nil w w' := by
  obtain ⟨h1, h2, h3⟩ := h
  cases A with
  | none =>
    obtain ⟨rfl, rfl⟩ := h2 rfl
    obtain rfl : xs = [] := List.length_eq_zero_iff.1 h1
    refine (clone_nil w).mono fun e w' ⟨he, hw⟩ => ?_
    subst hw
    obtain ⟨A', c', hv, hO⟩ := Own.of (xs := []) (World.ownsRow_nil w' w'.heap.size 22 1)
    exact ⟨A', c', he.trans (by rw [hv]), hO, Only.refl _ _⟩
  | some a =>
    subst h1
    refine (clone_any a _ cap xs w rfl hm h3).mono fun e w' ⟨v, he, ho, hO⟩ => ?_
    obtain ⟨A', c', rfl, hw⟩ := Own.of ho
    exact ⟨A', c', he, hw, hO⟩

/-- A memory behind a pointer to block b: its words lie at A, the words xs. -/
structure Mem (w : World) (b : Nat) (A : Option Addr) (c : Nat) (xs : List Int) : Prop where
  hdr : Row w b 93 #[.slice A xs.length c]
  own : Own w 0 A c xs
  len : xs.length ≤ 1024

theorem Mem.only {w w' : World} {b : Nat} {A : Option Addr} {c : Nat} {xs : List Int} {S : Nat → Prop} (h : Mem w b A c xs) (ho : Only S w w') (hb : ¬ S b) (hS : ∀ i, At A i → ¬ S i) : Mem w' b A c xs :=
  ⟨h.hdr.only ho hb, h.own.only ho hS, h.len⟩
end Go.Proofs.YtigdbokfapedcaaGreat
/- (*Memory).Do over any memory; the plain functions of its words. -/
namespace Go.Proofs.YtigdbokfapedcaaGreat
open Go.RowKit


def there (xs : List Int) (c : Int) : Bool := decide (0 ≤ c ∧ c < xs.length)
def wordAt (xs : List Int) (c : Int) : Int := if there xs c then xs.getD c.toNat 0 else 0
def doOk (xs : List Int) (k c : Int) : Bool := there xs c && isKind k
def accOf (k c x y o : Int) : Value := .agg #[.int .i64 k, .int .i64 c, .int .u32 x, .int .u32 y, .int .u32 o]
def doVal (xs : List Int) (k c x y : Int) : Value := if doOk xs k c then accOf k c x y (wordAt xs c) else accOf 0 0 0 0 0
def doNew (xs : List Int) (k c x y : Int) : List Int := if doOk xs k c then xs.set c.toNat (leftOf k x y (wordAt xs c)) else xs

theorem doNew_len (xs : List Int) (k c x y : Int) : (doNew xs k c x y).length = xs.length := by
  unfold doNew; split <;> simp

theorem own_set {w' : World} {base g n cap i : Nat} {e : TypeId} {cur : Array Value} {xs : List Int} {u : Int} (h : Row w' g e (cur.setIfInBounds i (.int .u32 u))) (hb : base ≤ g) (hn : n ≤ cap) (hcap : cap ≤ maxLen) (hs : cur.size = cap) (hx : xs.length = n)
    (ht : cur.toList.take n = xs.map (.int .u32)) : w'.ownsRow base e 1 (.slice (some ⟨g, 0, none⟩) n cap) n ((xs.set i u).map (.int .u32)) := by
  refine ⟨by simp [hx], .inr ⟨g, cap, _, rfl, hb, h, hn, hcap, by simp [hs], ?_⟩⟩
  rw [Nat.mul_one, List.map_set, ← ht, Array.toList_setIfInBounds, List.take_set]

/-- Any access at any memory. -/
theorem do_any (b : Nat) (A : Option Addr) (cp : Nat) (xs : List Int) (k c x y o : Int) (w : World) (h : Mem w b A cp xs) :
    Calls Tryz.prog 244 #[.pointer (some ⟨b, 0, none⟩), .agg #[.int .i64 k, .int .i64 c, .int .u32 x, .int .u32 y, .int .u32 o]] w fun e w' =>
      e = .returned (.tuple #[doVal xs k c x y, .bool (doOk xs k c)]) ∧ Only (At A) w w' ∧ Mem w' b A cp (doNew xs k c x y) := by
  by_cases hc : there xs c = true
  · have hc' := hc
    simp only [there, decide_eq_true_eq] at hc'
    obtain ⟨i, rfl⟩ := Int.eq_ofNat_of_zero_le hc'.1
    have hi : i < xs.length := by omega
    obtain ⟨hdr, own, len⟩ := h
    have hown := own.own
    rcases hown.2 with ⟨_, h0⟩ | ⟨g, cap, cur, hv, hg0, hg, hn, hcap, hsz, ht⟩
    · omega
    · injection hv with h1 h2 h3
      subst h1 h3
      have hr : Row w g 22 cur := hg
      have hcv : cur[i]? = some (.int .u32 (wordAt xs i)) := by
        have e1 : (cur.toList.take (xs.length * 1))[i]? = (xs.map (Value.int .u32))[i]? := by rw [ht]
        rw [List.getElem?_take, if_pos (by omega), List.getElem?_map, List.getElem?_eq_getElem hi] at e1
        simp only [Option.map_some, Array.getElem?_toList] at e1
        rw [e1]
        simp [wordAt, hc, List.getD, List.getElem?_eq_getElem hi]
      have hAt : ∀ j, At (some (⟨g, 0, none⟩ : Addr)) j ↔ j = g := fun j => ⟨fun ⟨a, ha, hj⟩ => by injection ha with ha; subst ha; exact hj.symm, fun hj => ⟨_, rfl, hj.symm⟩⟩
      have hbg : b ≠ g := by
        rintro rfl
        have := (hdr.same hr).1
        exact absurd this (by decide)
      cases hk : isKind k with
      | true =>
        refine (do_in b g xs.length cp i cur k x y o (wordAt xs i) w hdr hr hi hcv hk).mono fun e w' ⟨he, hO, hR⟩ => ?_
        have hok : doOk xs k i = true := by simp [doOk, hc, hk]
        refine ⟨by rw [he]; simp [doVal, hok, accOf], hO.mono (fun j _ hj => (hAt j).2 hj), ?_⟩
        have e2 : doNew xs k i x y = xs.set i (leftOf k x y (wordAt xs i)) := by simp [doNew, hok]
        rw [e2]
        refine ⟨?_, ⟨?_, (by rw [List.length_set]; exact own.nil), own.base⟩, by simpa using len⟩
        · rw [List.length_set]; exact hdr.only hO hbg
        · rw [List.length_set]; exact own_set hR (Nat.zero_le _) hn hcap (by omega) rfl (by rw [Nat.mul_one] at ht; exact ht)
      | false =>
        refine (do_bad b g xs.length cp i cur k x y o (wordAt xs i) w hdr hr hi hcv hk).mono fun e w' ⟨he, hO⟩ => ?_
        have hok : doOk xs k i = false := by simp [doOk, hk]
        refine ⟨by rw [he]; simp [doVal, hok, accOf], hO.mono (fun _ _ hj => hj.elim), ?_⟩
        rw [show doNew xs k i x y = xs by simp [doNew, hok]]
        exact Mem.only ⟨hdr, own, len⟩ hO id (fun _ _ => id)
  · have hc' := hc
    simp only [there, decide_eq_true_eq] at hc'
    have hok : doOk xs k c = false := by simp [doOk, hc]
    refine (do_out b A xs.length cp k c x y o w h.hdr (by omega)).mono fun e w' ⟨he, hO⟩ => ?_
    refine ⟨by rw [he]; simp [doVal, hok, accOf], hO.mono (fun _ _ hj => hj.elim), ?_⟩
    rw [show doNew xs k c x y = xs by simp [doNew, hok]]
    exact h.only hO id (fun _ _ => id)

/-- The access's Old: what was there; 0 where nothing is done. -/
theorem doVal_form (xs : List Int) (k c x y : Int) : ∃ k' c' x' y', doVal xs k c x y = .agg #[.int .i64 k', .int .i64 c', .int .u32 x', .int .u32 y', .int .u32 (if doOk xs k c then wordAt xs c else 0)] := by
  unfold doVal accOf
  split
  · exact ⟨k, c, x, y, rfl⟩
  · exact ⟨0, 0, 0, 0, rfl⟩

theorem oldAt (xs : List Int) (k c : Int) (hk : isKind k = true) : (if doOk xs k c then wordAt xs c else 0) = wordAt xs c := by
  unfold doOk wordAt
  cases h : there xs c <;> simp [hk]

theorem set_same {xs : List Int} {c : Int} : (if there xs c then xs.set c.toNat (wordAt xs c) else xs) = xs := by
  split
  · rename_i ht
    have ht' := ht
    simp only [there, decide_eq_true_eq] at ht'
    have hi : c.toNat < xs.length := by omega
    simp [wordAt, ht, List.getD, List.getElem?_eq_getElem hi]
  · rfl

theorem doNew_load (xs : List Int) (c x y : Int) : doNew xs 1 c x y = xs := by
  have e := set_same (xs := xs) (c := c)
  unfold doNew doOk
  simpa [isKind, leftOf] using e

/-- A word of an owned list: where it lies, and what a store into it leaves. -/
theorem Own.row {w : World} {base : Nat} {A : Option Addr} {c : Nat} {xs : List Int} (h : Own w base A c xs) {i : Nat} (hi : i < xs.length) :
    ∃ g cur, A = some ⟨g, 0, none⟩ ∧ base ≤ g ∧ Row w g 22 cur ∧ cur[i]? = some (.int .u32 (xs.getD i 0)) ∧
      ∀ (w' : World) (u : Int), Row w' g 22 (cur.setIfInBounds i (.int .u32 u)) → Own w' base A c (xs.set i u) := by
  obtain ⟨own, nil, bs⟩ := h
  rcases own.2 with ⟨_, h0⟩ | ⟨g, cap, cur, hv, hg0, hg, hn, hcap, hsz, ht⟩
  · omega
  · injection hv with h1 h2 h3
    subst h1 h3
    refine ⟨g, cur, rfl, hg0, hg, ?_, fun w' u hr => ⟨?_, (by rw [List.length_set]; exact nil), bs⟩⟩
    · have e1 : (cur.toList.take (xs.length * 1))[i]? = (xs.map (Value.int .u32))[i]? := by rw [ht]
      rw [List.getElem?_take, if_pos (by omega), List.getElem?_map, List.getElem?_eq_getElem hi] at e1
      simp only [Option.map_some, Array.getElem?_toList] at e1
      rw [e1]
      simp [List.getD, List.getElem?_eq_getElem hi]
    · rw [List.length_set]
      exact own_set hr hg0 hn hcap (by omega) rfl (by rw [Nat.mul_one] at ht; exact ht)


/-- A word put where there is a cell. -/
def st (xs : List Int) (c u : Int) : List Int := if there xs c then xs.set c.toNat u else xs
theorem there_st (xs : List Int) (c u d : Int) : there (st xs c u) d = there xs d := by unfold st there; split <;> simp
theorem st_len (xs : List Int) (c u : Int) : (st xs c u).length = xs.length := by unfold st; split <;> simp
theorem word_st (xs : List Int) (c u : Int) : wordAt (st xs c u) c = if there xs c then u else 0 := by
  unfold wordAt
  rw [there_st]
  split
  · rename_i h
    have h' := h
    simp only [there, decide_eq_true_eq] at h'
    simp only [st, h, if_true, List.getD]
    rw [List.getElem?_set_self (by omega)]
    rfl
  · rfl
theorem st_st (xs : List Int) (c u v : Int) : st (st xs c u) c v = st xs c v := by
  unfold st
  cases h : there xs c
  · simp [h]
  · have h2 : there (xs.set c.toNat u) c = true := by simpa [there] using h
    simp [h2]
theorem st_word (xs : List Int) (c : Int) : st xs c (wordAt xs c) = xs := set_same
theorem doNew_st (xs : List Int) (k c x y : Int) (hk : isKind k = true) : doNew xs k c x y = st xs c (leftOf k x y (wordAt xs c)) := by
  unfold doNew st doOk
  simp [hk]
theorem word_wf {xs : List Int} (h : ∀ n ∈ xs, (Lit.int .u32 n).wf = true) (c : Int) : 0 ≤ wordAt xs c ∧ wordAt xs c < 4294967296 := by
  unfold wordAt
  split
  · rename_i ht
    simp only [there, decide_eq_true_eq] at ht
    have hi : c.toNat < xs.length := by omega
    simp only [List.getD, List.getElem?_eq_getElem hi, Option.getD_some]
    exact wf_u32 (h _ (List.getElem_mem hi))
  · omega
theorem isRow_held {w : World} {A : Option Addr} {len cap : Nat} {zs : List Int} (h : IsRow .u32 w A len cap zs) : Held w A len cap zs := ⟨h.len_, h.nil, h.ints⟩
/-- A word of a list that came in, at a later world. -/
theorem isRow_cell {w w' : World} {A : Option Addr} {len cap : Nat} {zs : List Int} {c : Int} (h : IsRow .u32 w A len cap zs) (ho : Only Nil w w') (hc : there zs c = true) :
    ∃ b o, A = some ⟨b, o, none⟩ ∧ 0 ≤ c ∧ c < (len : Int) ∧ w'.cell? ⟨b, o + c.toNat, none⟩ = some (.int .u32 (wordAt zs c)) := by
  have hc' := hc
  simp only [there, decide_eq_true_eq] at hc'
  obtain ⟨i, rfl⟩ := Int.eq_ofNat_of_zero_le hc'.1
  obtain ⟨b, o, hA, hb, hcell⟩ := h.ints (by omega)
  refine ⟨b, o, hA, by omega, by have := h.len_; omega, ?_⟩
  rw [Int.toNat_natCast, ho.cell hb id, hcell i (by omega)]
  simp [wordAt, hc]
end Go.Proofs.YtigdbokfapedcaaGreat
/- The cells of a lock's tasks: the count, the cell, the size, the map; the answer's cell. -/
namespace Go.Proofs.YtigdbokfapedcaaGreat
open Go.RowKit

def okN (n : Int) : Bool := decide (1 ≤ n) && decide (n ≤ 64)

theorem okN_yes {n : Int} (h : 1 ≤ n ∧ n ≤ 64) : okN n = true := by simp [okN, h.1, h.2]

theorem okN_no {n : Int} (h : ¬ (1 ≤ n ∧ n ≤ 64)) : okN n = false := by
  simp only [okN, Bool.and_eq_false_iff, decide_eq_false_iff_not]; omega

/-- The cell of a task in a row, or -1. -/
def cellI (n row i : Int) : Int := if 1 ≤ n ∧ n ≤ 64 ∧ 0 ≤ i ∧ i < n then 8 + row * n + i else -1

def sizeI (n : Int) : Int := if 1 ≤ n ∧ n ≤ 64 then 8 + 4 * n else 0

theorem ret_int {k : IntKind} {a b : Int} (h : a = b) : Ending.returned (.int k a) = .returned (.int k b) := by rw [h]

theorem isCount_any (n : Int) (w : World) :
    Calls Tryz.prog 34 #[.int .i64 n] w fun e w' => e = .returned (.bool (okN n)) ∧ w = w' := by
  by_cases h1 : 1 ≤ n
  · by_cases h2 : n ≤ 64
    · rw [okN_yes ⟨h1, h2⟩]
      go_enter Tryz.func34, Tryz.ntmps34
      go_wp2
      go_ret
      exact ⟨rfl, rfl⟩
    · rw [okN_no (fun h => h2 h.2)]
      go_enter Tryz.func34, Tryz.ntmps34
      go_wp2
      go_ret
      exact ⟨rfl, rfl⟩
  · rw [okN_no (fun h => h1 h.1)]
    go_enter Tryz.func34, Tryz.ntmps34
    go_wp2
    go_ret
    exact ⟨rfl, rfl⟩

theorem cell_row (n row i : Int) (w : World) (hr : row = 0 ∨ row = 1 ∨ row = 2 ∨ row = 3) :
    Calls Tryz.prog 278 #[.agg #[.int .i64 n], .int .i64 row, .int .i64 i] w fun e w' => e = .returned (.int .i64 (cellI n row i)) ∧ Only Nil w w' := by
  by_cases hn : 1 ≤ n ∧ n ≤ 64
  · by_cases h0 : 0 ≤ i
    · by_cases h1 : i < n
      · have hc : cellI n row i = 8 + row * n + i := if_pos ⟨hn.1, hn.2, h0, h1⟩
        rw [hc]
        clear hc
        have HK := Lib.hid (okN_yes hn)
        obtain ⟨n1, n2⟩ := hn
        rcases hr with rfl | rfl | rfl | rfl
        all_goals
          go_enter Tryz.func278, Tryz.ntmps278
          go_wp2_with fail
          refine (isCount_any n _).mono ?_
          rw [HK.out]
          rintro e w1 ⟨rfl, rfl⟩
          go_wp2
          go_ret
          exact ⟨ret_int (by omega), by (repeat' (first | (with_reducible exact Only.refl _ _) | (with_reducible assumption) | (with_reducible refine Only.setCell ?_ ?_ _) | (with_reducible refine Only.drewN ?_ _) | (with_reducible refine Only.drew ?_) | (with_reducible refine Only.alloc ?_ _) | (left; simp; done) | (left; simp; omega) | (right; rfl)))⟩
      · have hc : cellI n row i = -1 := if_neg (fun h => h1 h.2.2.2)
        rw [hc]
        clear hc hr
        have HK := Lib.hid (okN_yes hn)
        clear hn
        go_enter Tryz.func278, Tryz.ntmps278
        go_wp2_with fail
        refine (isCount_any n _).mono ?_
        rw [HK.out]
        rintro e w1 ⟨rfl, rfl⟩
        go_wp2
        go_ret
        exact ⟨rfl, by (repeat' (first | (with_reducible exact Only.refl _ _) | (with_reducible assumption) | (with_reducible refine Only.setCell ?_ ?_ _) | (with_reducible refine Only.drewN ?_ _) | (with_reducible refine Only.drew ?_) | (with_reducible refine Only.alloc ?_ _) | (left; simp; done) | (left; simp; omega) | (right; rfl)))⟩
    · have hc : cellI n row i = -1 := if_neg (fun h => h0 h.2.2.1)
      rw [hc]
      clear hc hr
      have HK := Lib.hid (okN_yes hn)
      clear hn
      go_enter Tryz.func278, Tryz.ntmps278
      go_wp2_with fail
      refine (isCount_any n _).mono ?_
      rw [HK.out]
      rintro e w1 ⟨rfl, rfl⟩
      go_wp2
      go_ret
      exact ⟨rfl, by (repeat' (first | (with_reducible exact Only.refl _ _) | (with_reducible assumption) | (with_reducible refine Only.setCell ?_ ?_ _) | (with_reducible refine Only.drewN ?_ _) | (with_reducible refine Only.drew ?_) | (with_reducible refine Only.alloc ?_ _) | (left; simp; done) | (left; simp; omega) | (right; rfl)))⟩
  · have hc : cellI n row i = -1 := if_neg (fun h => hn ⟨h.1, h.2.1⟩)
    rw [hc]
    clear hc hr
    have HK := Lib.hid (okN_no hn)
    clear hn
    go_enter Tryz.func278, Tryz.ntmps278
    go_wp2_with fail
    refine (isCount_any n _).mono ?_
    rw [HK.out]
    rintro e w1 ⟨rfl, rfl⟩
    go_wp2
    go_ret
    exact ⟨rfl, by (repeat' (first | (with_reducible exact Only.refl _ _) | (with_reducible assumption) | (with_reducible refine Only.setCell ?_ ?_ _) | (with_reducible refine Only.drewN ?_ _) | (with_reducible refine Only.drew ?_) | (with_reducible refine Only.alloc ?_ _) | (left; simp; done) | (left; simp; omega) | (right; rfl)))⟩
end Go.Proofs.YtigdbokfapedcaaGreat
/- Permits: plain functions; a memory, or none; a law's lock. -/
set_option linter.unusedVariables false
set_option linter.unusedSimpArgs false
namespace Go.Proofs.YtigdbokfapedcaaGreat
open Go.RowKit

/-- A task's permit's cell. -/
def pc (n i : Int) : Int := cellI n 3 i

/-- Is the permit there? -/
def hasP (xs : List Int) (n i : Int) : Bool := wordAt xs (pc n i) != 0

/-- A struct of five cells stored into a block. -/
theorem five {w : World} {g : Nat} {t : TypeId} {a0 a1 a2 a3 a4 : Value} (h : Row w g t #[a0, a1, a2, a3, a4]) (v0 v1 v2 v3 v4 : Value) :
    Row (((((w.setCell ⟨g, 0, none⟩ v0).setCell ⟨g, 1, none⟩ v1).setCell ⟨g, 2, none⟩ v2).setCell ⟨g, 3, none⟩ v3).setCell ⟨g, 4, none⟩ v4) g t #[v0, v1, v2, v3, v4] := by
  simpa using ((((h.set 0 v0).set 1 v1).set 2 v2).set 3 v3).set 4 v4

theorem five_only {S : Nat → Prop} {w w' : World} (h : Only S w w') {g : Nat} (hg : w.heap.size ≤ g ∨ S g) (v0 v1 v2 v3 v4 : Value) :
    Only S w (((((w'.setCell ⟨g, 0, none⟩ v0).setCell ⟨g, 1, none⟩ v1).setCell ⟨g, 2, none⟩ v2).setCell ⟨g, 3, none⟩ v3).setCell ⟨g, 4, none⟩ v4) :=
  ((((h.setCell (p := ⟨g, 0, none⟩) hg v0).setCell (p := ⟨g, 1, none⟩) hg v1).setCell (p := ⟨g, 2, none⟩) hg v2).setCell (p := ⟨g, 3, none⟩) hg v3).setCell (p := ⟨g, 4, none⟩) hg v4

/-- A memory, or none. -/
def Memo (w : World) (p A : Option Addr) (cp : Nat) (xs : List Int) : Prop := (p = none ∧ xs = [] ∧ A = none) ∨ ∃ b, p = some ⟨b, 0, none⟩ ∧ Mem w b A cp xs

theorem Memo.of {w : World} {b : Nat} {A : Option Addr} {cp : Nat} {xs : List Int} (h : Mem w b A cp xs) : Memo w (some ⟨b, 0, none⟩) A cp xs := .inr ⟨b, rfl, h⟩

theorem Memo.far {w w' : World} {p A : Option Addr} {cp : Nat} {xs : List Int} {S : Nat → Prop} (h : Memo w p A cp xs) (ho : Only S w w') (hS : ∀ j, At p j ∨ At A j → ¬ S j) : Memo w' p A cp xs := by
  rcases h with h | ⟨b, rfl, h⟩
  · exact .inl h
  · exact .inr ⟨b, rfl, h.only ho (hS b (.inl ⟨_, rfl, rfl⟩)) (fun j hj => hS j (.inr hj))⟩

theorem Memo.keep {w w' : World} {p A : Option Addr} {cp : Nat} {xs : List Int} (h : Memo w p A cp xs) (ho : Only Nil w w') : Memo w' p A cp xs := h.far ho (fun _ _ => id)

theorem Memo.lt {w : World} {p A : Option Addr} {cp : Nat} {xs : List Int} (h : Memo w p A cp xs) : ∀ j, At p j ∨ At A j → j < w.heap.size := by
  rcases h with ⟨rfl, _, rfl⟩ | ⟨b, rfl, h⟩
  · rintro j (⟨a, h, _⟩ | ⟨a, h, _⟩) <;> cases h
  · rintro j (⟨a, h2, rfl⟩ | h2)
    · cases h2; exact h.hdr.lt
    · exact h.own.lt j h2

theorem do_memo (p A : Option Addr) (cp : Nat) (xs : List Int) (k c x y o : Int) (w : World) (h : Memo w p A cp xs) :
    Calls Tryz.prog 244 #[.pointer p, .agg #[.int .i64 k, .int .i64 c, .int .u32 x, .int .u32 y, .int .u32 o]] w fun e w' =>
      e = .returned (.tuple #[doVal xs k c x y, .bool (doOk xs k c)]) ∧ Only (At A) w w' ∧ Memo w' p A cp (doNew xs k c x y) := by
  rcases h with ⟨rfl, rfl, rfl⟩ | ⟨b, rfl, h⟩
  · have ht : there [] c = false := by
      have : ¬ (0 ≤ c ∧ c < ((0 : Nat) : Int)) := by omega
      simp only [there, List.length_nil, decide_eq_false_iff_not]; exact this
    have hok : doOk [] k c = false := by simp [doOk, ht]
    refine (do_nil k c x y o w).mono fun e w' ⟨he, hO⟩ => ⟨by rw [he]; simp [doVal, hok, accOf], hO.mono (fun _ _ h => h.elim), .inl ⟨rfl, by simp [doNew, hok], rfl⟩⟩
  · exact (do_any b A cp xs k c x y o w h).mono fun e w' ⟨he, hO, hM⟩ => ⟨he, hO, .inr ⟨b, rfl, hM⟩⟩

/-- The access that a permit is taken by. -/
def takeVal (xs : List Int) (n i : Int) : Value := if hasP xs n i then accOf 4 (pc n i) 0 0 (wordAt xs (pc n i)) else accOf 0 0 0 0 0

theorem hasP_there {xs : List Int} {n i : Int} (h : hasP xs n i = true) : there xs (pc n i) = true := by
  unfold hasP wordAt at h
  cases ht : there xs (pc n i)
  · rw [ht] at h; simp at h
  · rfl

theorem st_none {xs : List Int} {n i : Int} (h : hasP xs n i = false) : st xs (pc n i) 0 = xs := by
  have hw : wordAt xs (pc n i) = 0 := by simpa [hasP] using h
  have := st_word xs (pc n i)
  rwa [hw] at this

/-- A law's lock: its memory, made since w0, ahead of block B, which holds the map. -/
structure Lk (w0 : World) (B : Nat) (p A : Option Addr) (cp : Nat) (n : Int) (w : World) (xs : List Int) : Prop where
  only : Only Nil w0 w
  memo : Memo w p A cp xs
  map : Row w B 49 #[.int .i64 n]
  far : ∀ j, At p j ∨ At A j → w0.heap.size ≤ j ∧ j < B

theorem Lk.keep {w0 w w' : World} {B : Nat} {p A : Option Addr} {cp : Nat} {n : Int} {xs : List Int} (h : Lk w0 B p A cp n w xs) (ho : Only Nil w w') : Lk w0 B p A cp n w' xs :=
  ⟨h.only.trans ho, h.memo.keep ho, h.map.only ho id, h.far⟩

theorem Lk.alloc {w0 w : World} {B : Nat} {p A : Option Addr} {cp : Nat} {n : Int} {xs : List Int} (h : Lk w0 B p A cp n w xs) (o : Obj) : Lk w0 B p A cp n (w.alloc o) xs := h.keep ((Only.refl Nil w).alloc o)

theorem Lk.call {w0 w w' : World} {B : Nat} {p A : Option Addr} {cp : Nat} {n : Int} {xs ys : List Int} (h : Lk w0 B p A cp n w xs) (ho : Only (At A) w w') (hm : Memo w' p A cp ys) : Lk w0 B p A cp n w' ys :=
  ⟨h.only.step ho (fun i hi hA => by have := (h.far i (.inr hA)).1; omega), hm, h.map.only ho (fun hA => by have := (h.far _ (.inr hA)).2; omega), h.far⟩

theorem Memo.mem {w : World} {b : Nat} {A : Option Addr} {cp : Nat} {xs : List Int} (h : Memo w (some ⟨b, 0, none⟩) A cp xs) : Mem w b A cp xs := by
  rcases h with ⟨h, _⟩ | ⟨b', hb, h⟩
  · cases h
  · cases hb; exact h

theorem pc_of {n i : Int} (hn : 1 ≤ n ∧ n ≤ 64) (hi : 0 ≤ i ∧ i < n) : pc n i = 8 + 3 * n + i := if_pos ⟨hn.1, hn.2, hi.1, hi.2⟩

theorem pc_none {n i : Int} (h : ¬ (1 ≤ n ∧ n ≤ 64 ∧ 0 ≤ i ∧ i < n)) : pc n i = -1 := if_neg h

theorem hasP_st {xs : List Int} {n i : Int} (u : Int) (h : there xs (pc n i) = true) : hasP (st xs (pc n i) u) n i = (u != 0) := by
  unfold hasP
  rw [word_st, h]
  rfl

theorem word_far {xs : List Int} {c d : Int} (u : Int) (h : c ≠ d) : wordAt (st xs c u) d = wordAt xs d := by
  unfold wordAt
  rw [there_st]
  cases hd : there xs d
  · rfl
  · unfold st
    cases hc : there xs c
    · rfl
    · simp only [there, decide_eq_true_eq] at hd hc
      simp only [if_true, List.getD]
      rw [List.getElem?_set_ne (by omega)]

theorem hasP_far {xs : List Int} {n i j : Int} (u : Int) (h : pc n i ≠ pc n j) : hasP (st xs (pc n i) u) n j = hasP xs n j := by
  unfold hasP
  rw [word_far u h]

theorem five_far {w : World} {g q : Nat} {t : TypeId} {cs : Array Value} (h : Row w q t cs) (hq : q ≠ g) (v0 v1 v2 v3 v4 : Value) :
    Row (((((w.setCell ⟨g, 0, none⟩ v0).setCell ⟨g, 1, none⟩ v1).setCell ⟨g, 2, none⟩ v2).setCell ⟨g, 3, none⟩ v3).setCell ⟨g, 4, none⟩ v4) q t cs :=
  h.only (five_only (Only.refl (· = g) w) (.inr rfl) v0 v1 v2 v3 v4) hq

/-- What a call of Take tells, field by field. -/
theorem takeVal_form (xs : List Int) (n i : Int) : ∃ k c x y o, takeVal xs n i = .agg #[.int .i64 k, .int .i64 c, .int .u32 x, .int .u32 y, .int .u32 o] := by
  unfold takeVal accOf
  split
  · exact ⟨_, _, _, _, _, rfl⟩
  · exact ⟨_, _, _, _, _, rfl⟩
end Go.Proofs.YtigdbokfapedcaaGreat
/- Waiting: plain functions; a return of two structs that lie in blocks of their own, and of two values more. -/
set_option linter.unusedVariables false
set_option linter.unusedSimpArgs false
namespace Go.Proofs.YtigdbokfapedcaaGreat
open Go.RowKit

/-- A task's watch's cell. -/
def wc (n i : Int) : Int := cellI n 2 i
/-- Each word is one. -/
def Words (xs : List Int) : Prop := ∀ n ∈ xs, (Lit.int .u32 n).wf = true

/-- What a step tells, and leaves. -/
structure StepR where
  next : Int
  acc : Value
  seen : Bool
  done : Bool
  xs : List Int

/-- One step. -/
def stepI (xs : List Int) (n mode i s c : Int) (q : Int → Bool) : StepR :=
  if mode ≠ 2 then ⟨0, doVal xs 1 c 0 0, q (wordAt xs c), q (wordAt xs c), xs⟩
  else if s = 1 then ⟨2, doVal xs 2 (wc n i) ((c + 1) % 4294967296) 0, false, false, st xs (wc n i) ((c + 1) % 4294967296)⟩
  else if s = 2 then ⟨if q (wordAt xs c) then 4 else 3, doVal xs 1 c 0 0, q (wordAt xs c), false, xs⟩
  else if s = 3 then ⟨if hasP xs n i then 2 else 3, takeVal xs n i, false, false, st xs (pc n i) 0⟩
  else if s = 4 then ⟨0, doVal xs 2 (wc n i) 0 0, false, true, st xs (wc n i) 0⟩
  else ⟨if q (wordAt xs c) then 0 else 1, doVal xs 1 c 0 0, q (wordAt xs c), q (wordAt xs c), xs⟩

/-- Would the step take a permit that isn't there? -/
def stuckB (xs : List Int) (n mode i s : Int) : Bool := (mode == 2) && (s == 3) && !hasP xs n i

section
variable {xs : List Int} {n mode i s c : Int} {q : Int → Bool}
theorem stepI_spin (h : mode ≠ 2) : stepI xs n mode i s c q = ⟨0, doVal xs 1 c 0 0, q (wordAt xs c), q (wordAt xs c), xs⟩ := if_pos h
theorem stepI_1 : stepI xs n 2 i 1 c q = ⟨2, doVal xs 2 (wc n i) ((c + 1) % 4294967296) 0, false, false, st xs (wc n i) ((c + 1) % 4294967296)⟩ := rfl
theorem stepI_2 : stepI xs n 2 i 2 c q = ⟨if q (wordAt xs c) then 4 else 3, doVal xs 1 c 0 0, q (wordAt xs c), false, xs⟩ := rfl
theorem stepI_3 : stepI xs n 2 i 3 c q = ⟨if hasP xs n i then 2 else 3, takeVal xs n i, false, false, st xs (pc n i) 0⟩ := rfl
theorem stepI_4 : stepI xs n 2 i 4 c q = ⟨0, doVal xs 2 (wc n i) 0 0, false, true, st xs (wc n i) 0⟩ := rfl
theorem stepI_0 (h1 : s ≠ 1) (h2 : s ≠ 2) (h3 : s ≠ 3) (h4 : s ≠ 4) : stepI xs n 2 i s c q = ⟨if q (wordAt xs c) then 0 else 1, doVal xs 1 c 0 0, q (wordAt xs c), q (wordAt xs c), xs⟩ := by
  unfold stepI
  rw [if_neg (by simp), if_neg h1, if_neg h2, if_neg h3, if_neg h4]
end

/-- A return of two structs that lie in blocks of their own, and of two values more. -/
theorem post_two_tmps {P : Program} {fn : Func} {R : Ending → World → Prop} {a : Act} {w : World} {p q u v : Tmp} {ty ty' : TypeId} (h : fn.results = #[.cell p ty, .cell q ty', .tmp u, .tmp v]) {g g' : Nat} {t t' : TypeId} {cs cs' : Array Value} {d d' : TypeDesc}
    (hp : a.tmps.getD p undef = .pointer (some ⟨g, 0, none⟩)) (hg : Row w g t cs) (hu : P.underlying ty = some d) (hd : (match d with | .struct _ | .array _ _ => true | _ => false) = true) (hi : (P.info? ty).map (·.size) = some cs.size)
    (hq : a.tmps.getD q undef = .pointer (some ⟨g', 0, none⟩)) (hg' : Row w g' t' cs') (hu' : P.underlying ty' = some d') (hd' : (match d' with | .struct _ | .array _ _ => true | _ => false) = true) (hi' : (P.info? ty').map (·.size) = some cs'.size)
    (hf : a.defers = []) (hR : R (.returned (.tuple #[.agg cs, .agg cs', a.tmps.getD u undef, a.tmps.getD v undef])) w) : bodyPost P fn R .ret a w := by
  refine ⟨hf, _, ?_, hR⟩
  have hp' : a.tmps[p]?.getD undef = .pointer (some ⟨g, 0, none⟩) := by simpa using hp
  have hq' : a.tmps[q]?.getD undef = .pointer (some ⟨g', 0, none⟩) := by simpa using hq
  simp [results, h, hp', hq', asAddr, run_loadVar_row w g t ty cs (0, 0) d hg hu hd hi, run_loadVar_row w g' t' ty' cs' (0, 0) d' hg' hu' hd' hi']
end Go.Proofs.YtigdbokfapedcaaGreat
