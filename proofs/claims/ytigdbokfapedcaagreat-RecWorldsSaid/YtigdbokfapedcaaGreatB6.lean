/- Move, LineP, WdP, LineQ, WakeT, WakeAt, Permit, ParkOn, ParkGive, Watch. -/
import Derived.Deep.Cut
import Derived.Laws.AppendOwnNone
import Derived.Test.YtigdbokfapedcaaGreatB4
import Derived.Test.YtigdbokfapedcaaGreatB5
import Derived.Test.YtigdbokfapedcaaGreatB3
import Derived.Test.YtigdbokfapedcaaGreatB2
/- A region that draws its order: the moves, by the operation's number: one is taken first (mtk, mps: it yields, its guard says no; mcl: it is the one that is ready); by phases (mpt, mpa, mpp, mpc). What the kernel shows stands in the lemmas' own words. -/
namespace Go.Proofs.YtigdbokfapedcaaGreat
section
variable {P : Program} {md : Region.Mode} {Q : Exit → Act → World → Prop} {S : World → Prop} {fuel : Nat} {listed : Array Bool} {a : Act} {w : World} {oi : Oper} {ops : Array Oper} {c : Nat} {v : Value}
theorem at_list {i : Nat} (hi : ops.toList[i]? = some oi) : ops[i]? = some oi := by rw [← hi]; exact Array.getElem?_toList.symm
theorem mtk (i : Nat) (hi : ops.toList[i]? = some oi) (v : Value) (hv : ∀ w, S w → (execOp a.eval oi).run P w = .ok (.value v) w) (h : wpAnyH P md ops Q S fuel (listed.setIfInBounds i true) (a.put oi.dst v) w) (hs : Region.noSelect ops = true := by kernel_rfl) (hf : Region.free md ops listed i = true := by kernel_rfl) (hr : (Region.ready md ops listed).contains i = true := by kernel_rfl)
    (hQ : ∀ c a w, Q (.panic c) (a.put oi.dst v) w → Q (.panic c) a w := by exact fun _ _ _ h => h) (hw : Region.wanted oi (yielded ops a.tmps) = true := by rfl) (hS : S w := by assumption) : wpAnyH P md ops Q S (fuel + 1) listed a w :=
  wpAnyH_take (i := i) (oi := oi) (at_list hi) hs hf hr hQ (.inl ⟨hw, hv⟩) hS h
theorem mps (i : Nat) (hi : ops.toList[i]? = some oi) (h : wpAnyH P md ops Q S fuel (listed.setIfInBounds i true) (a.put oi.dst undef) w) (hs : Region.noSelect ops = true := by kernel_rfl) (hf : Region.free md ops listed i = true := by kernel_rfl) (hr : (Region.ready md ops listed).contains i = true := by kernel_rfl)
    (hQ : ∀ c a w, Q (.panic c) (a.put oi.dst undef) w → Q (.panic c) a w := by exact fun _ _ _ h => h) (hw : Region.wanted oi (yielded ops a.tmps) = false := by rfl) (hS : S w := by assumption) : wpAnyH P md ops Q S (fuel + 1) listed a w :=
  wpAnyH_take (i := i) (oi := oi) (at_list hi) hs hf hr hQ (.inr ⟨hw, rfl⟩) hS h
theorem mcl (i : Nat) (hi : ops.toList[i]? = some oi) (hr : Region.ready md ops listed = [i]) (hw : Region.wanted oi (yielded ops a.tmps) = true) (h : ∀ K' : Act → World → Prop, Shut (∀ a w, S w → (S w → wpAnyH P md ops Q S fuel (listed.setIfInBounds i true) a w) → K' a w) → Oper.wp P oi a w K' Q) : wpAnyH P md ops Q S (fuel + 1) listed a w :=
  wpAnyH_ready hr (by simp) (AllReadyH.cons (o := oi) (at_list hi) (fun K' hK => by rw [if_pos hw]; exact h K' hK) AllReadyH.nil)
theorem mpt (i : Nat) (hi : ops.toList[i]? = some oi) (v : Value) (hv : ∀ w, S w → (execOp a.eval oi).run P w = .ok (.value v) w) (h : wpAnyP P md ops Q S c fuel (listed.setIfInBounds i true) (a.put oi.dst v) w) (n : Nat := 9) (hs : Region.noSelect ops = true := by kernel_rfl) (hf : Region.free md ops listed i = true := by kernel_rfl) (hr : (Region.ready md ops listed).contains i = true := by kernel_rfl)
    (hld : leads md ops c n i = true := by kernel_rfl) (hcl : closedB md ops listed = true := by kernel_rfl) (hQ : ∀ c a w, Q (.panic c) (a.put oi.dst v) w → Q (.panic c) a w := by exact fun _ _ _ h => h) (hw : Region.wanted oi (yielded ops a.tmps) = true := by rfl) (hS : S w := by assumption) : wpAnyP P md ops Q S c (fuel + 1) listed a w :=
  wpAnyP_take (i := i) (oi := oi) (at_list hi) hs hf hr hld hcl hQ (.inl ⟨hw, hv⟩) hS h
theorem mpa (i : Nat) (hi : ops.toList[i]? = some oi) (v : Value) (hv : ∀ w, (execOp a.eval oi).run P w = .ok (.value v) w) (h : wpAnyP P md ops Q S c fuel (listed.setIfInBounds i true) (a.put oi.dst v) w) (hs : Region.noSelect ops = true := by kernel_rfl) (hf : Region.free md ops listed i = true := by kernel_rfl) (hr : (Region.ready md ops listed).contains i = true := by kernel_rfl)
    (hne : i ≠ c := by decide) (hcl : closedB md ops listed = true := by kernel_rfl) (hQ : ∀ c a w, Q (.panic c) (a.put oi.dst v) w → Q (.panic c) a w := by exact fun _ _ _ h => h) (hw : Region.wanted oi (yielded ops a.tmps) = true := by rfl) (hS : listed.getD c false = true ∨ S w := by first | (right; assumption) | (left; kernel_rfl)) : wpAnyP P md ops Q S c (fuel + 1) listed a w :=
  wpAnyP_any (i := i) (oi := oi) (at_list hi) hs hf hr hne hcl hQ (.inl ⟨hw, fun w _ => hv w⟩) hS h
theorem mpp (i : Nat) (hi : ops.toList[i]? = some oi) (h : wpAnyP P md ops Q S c fuel (listed.setIfInBounds i true) (a.put oi.dst undef) w) (hs : Region.noSelect ops = true := by kernel_rfl) (hf : Region.free md ops listed i = true := by kernel_rfl) (hr : (Region.ready md ops listed).contains i = true := by kernel_rfl)
    (hne : i ≠ c := by decide) (hcl : closedB md ops listed = true := by kernel_rfl) (hQ : ∀ c a w, Q (.panic c) (a.put oi.dst undef) w → Q (.panic c) a w := by exact fun _ _ _ h => h) (hw : Region.wanted oi (yielded ops a.tmps) = false := by rfl) (hS : listed.getD c false = true ∨ S w := by first | (right; assumption) | (left; kernel_rfl)) : wpAnyP P md ops Q S c (fuel + 1) listed a w :=
  wpAnyP_any (i := i) (oi := oi) (at_list hi) hs hf hr hne hcl hQ (.inr ⟨hw, rfl⟩) hS h
theorem mpc (i : Nat) (hi : ops.toList[i]? = some oi) (hr : Region.ready md ops listed = [i]) (hw : Region.wanted oi (yielded ops a.tmps) = true) (h : ∀ K' : Act → World → Prop, Shut (∀ a w, ((listed.setIfInBounds i true).getD c false = true ∨ S w) → wpAnyP P md ops Q S c fuel (listed.setIfInBounds i true) a w → K' a w) → Oper.wp P oi a w K' Q) : wpAnyP P md ops Q S c (fuel + 1) listed a w :=
  wpAnyP_one (i := i) (oi := oi) (at_list hi) hr hw h
-- as mtk, mpt, mpa, the value found by the walk's own simp
theorem zt (i : Nat) (hi : ops.toList[i]? = some oi) (h : wpAnyP P md ops Q S c fuel (listed.setIfInBounds i true) (a.put oi.dst v) w) (hv : ∀ w, S w → (execOp a.eval oi).run P w = .ok (.value v) w := by (intro w hSw; (try dsimp only at hSw); go_split_ands; go_simp <;> rfl)) (hs : Region.noSelect ops = true := by kernel_rfl) (hf : Region.free md ops listed i = true := by kernel_rfl) (hr : (Region.ready md ops listed).contains i = true := by kernel_rfl)
    (hld : leads md ops c 9 i = true := by kernel_rfl) (hcl : closedB md ops listed = true := by kernel_rfl) (hQ : ∀ c a w, Q (.panic c) (a.put oi.dst v) w → Q (.panic c) a w := by exact fun _ _ _ h => h) (hw : Region.wanted oi (yielded ops a.tmps) = true := by rfl) (hS : S w := by assumption) : wpAnyP P md ops Q S c (fuel + 1) listed a w := mpt i hi v hv h 9 hs hf hr hld hcl hQ hw hS
theorem za (i : Nat) (hi : ops.toList[i]? = some oi) (h : wpAnyP P md ops Q S c fuel (listed.setIfInBounds i true) (a.put oi.dst v) w) (hv : ∀ w, (execOp a.eval oi).run P w = .ok (.value v) w := by (intro w; go_simp <;> rfl)) (hs : Region.noSelect ops = true := by kernel_rfl) (hf : Region.free md ops listed i = true := by kernel_rfl) (hr : (Region.ready md ops listed).contains i = true := by kernel_rfl)
    (hne : i ≠ c := by decide) (hcl : closedB md ops listed = true := by kernel_rfl) (hQ : ∀ c a w, Q (.panic c) (a.put oi.dst v) w → Q (.panic c) a w := by exact fun _ _ _ h => h) (hw : Region.wanted oi (yielded ops a.tmps) = true := by rfl) (hS : listed.getD c false = true ∨ S w := by first | (right; assumption) | (left; kernel_rfl)) : wpAnyP P md ops Q S c (fuel + 1) listed a w := mpa i hi v hv h hs hf hr hne hcl hQ hw hS
theorem zk (i : Nat) (hi : ops.toList[i]? = some oi) (h : wpAnyH P md ops Q S fuel (listed.setIfInBounds i true) (a.put oi.dst v) w) (hv : ∀ w, S w → (execOp a.eval oi).run P w = .ok (.value v) w := by (intro w hSw; (try dsimp only at hSw); go_split_ands; go_simp <;> rfl)) (hs : Region.noSelect ops = true := by kernel_rfl) (hf : Region.free md ops listed i = true := by kernel_rfl) (hr : (Region.ready md ops listed).contains i = true := by kernel_rfl)
    (hQ : ∀ c a w, Q (.panic c) (a.put oi.dst v) w → Q (.panic c) a w := by exact fun _ _ _ h => h) (hw : Region.wanted oi (yielded ops a.tmps) = true := by rfl) (hS : S w := by assumption) : wpAnyH P md ops Q S (fuel + 1) listed a w := mtk i hi v hv h hs hf hr hQ hw hS
end
end Go.Proofs.YtigdbokfapedcaaGreat
/- A run behind a pointer, the program's: its cells, its memory, its notes; an access. -/
set_option linter.unusedVariables false
set_option linter.unusedSimpArgs false
namespace Go.Proofs.YtigdbokfapedcaaGreat
open Go.RowKit

/-- What a run's call may turn: the run, and the words. -/
def TurnB (B : Nat) (A : Option Addr) : Nat → Prop := fun j => j = B ∨ At A j

/-- The program's run in block B. -/
structure RunP (w : World) (B : Nat) (p A : Option Addr) (cp : Nat) (nv : Value) (r : LS) : Prop where
  row : Row w B 102 (r.cells (.pointer p) nv)
  notes : OwnN 0 w nv r.ns
  memo : Memo w p A cp r.xs

theorem own_tag {w : World} {base : Nat} {A : Option Addr} {c : Nat} {xs : List Int} (h : Own w base A c xs) {j : Nat} (hj : At A j) : ∃ cur, Row w j 22 cur := by
  obtain ⟨a, ha, rfl⟩ := hj
  subst ha
  rcases h.own.2 with ⟨hv, _⟩ | ⟨g, cap, cur, hv, _, hg, _⟩
  · cases hv
  · injection hv with h1
    injection h1 with h1
    subst h1
    exact ⟨cur, hg⟩
theorem memo_tag {w : World} {p A : Option Addr} {cp : Nat} {xs : List Int} (h : Memo w p A cp xs) {j : Nat} (hj : At p j ∨ At A j) : ∃ t cs, Row w j t cs ∧ (t = 93 ∨ t = 22) := by
  rcases h with ⟨rfl, _, rfl⟩ | ⟨b, rfl, h⟩
  · rcases hj with ⟨a, h, _⟩ | ⟨a, h, _⟩ <;> cases h
  · rcases hj with ⟨a, h2, rfl⟩ | h2
    · cases h2; exact ⟨_, _, h.hdr, .inl rfl⟩
    · obtain ⟨cur, hc⟩ := own_tag h.own h2
      exact ⟨_, _, hc, .inr rfl⟩
theorem ownN_tag {base : Nat} {w : World} {v : Value} {zs : List Nt} (h : OwnN base w v zs) {i : Nat} (hi : v.ownBlock = some i) : ∃ cur, Row w i 59 cur := by
  rcases h.2 with ⟨rfl, _⟩ | ⟨g, cap, cur, rfl, _, hg, _⟩
  · cases hi
  · have e : g = i := by simpa [Value.ownBlock] using hi
    subst e
    exact ⟨cur, hg⟩

theorem row_ne {w : World} {i j : Nat} {t t' : TypeId} {cs cs' : Array Value} (h : Row w i t cs) (h' : Row w j t' cs') (ht : t ≠ t') : i ≠ j := by
  rintro rfl
  exact ht (h.same h').1

section
variable {w w' : World} {B : Nat} {p A : Option Addr} {cp : Nat} {nv : Value} {r r' : LS} {ys : List Int} {S : Nat → Prop}
theorem RunP.far (h : RunP w B p A cp nv r) {j : Nat} (hj : At p j ∨ At A j) : j ≠ B := by
  rintro rfl
  obtain ⟨t, cs, hr, ht⟩ := memo_tag h.memo hj
  have e := (h.row.same hr).1
  rcases ht with rfl | rfl <;> exact absurd e (by decide)
theorem RunP.farN (h : RunP w B p A cp nv r) {i : Nat} (hi : nv.ownBlock = some i) : i ≠ B ∧ ¬ (At p i ∨ At A i) := by
  obtain ⟨cur, hc⟩ := ownN_tag h.notes hi
  refine ⟨?_, fun hj => ?_⟩
  · rintro rfl
    exact absurd (h.row.same hc).1 (by decide)
  · obtain ⟨t, cs, hr, ht⟩ := memo_tag h.memo hj
    have e := (hr.same hc).1
    rcases ht with rfl | rfl <;> exact absurd e (by decide)
theorem RunP.call (h : RunP w B p A cp nv r) (ho : Only (At A) w w') (hm : Memo w' p A cp ys) : RunP w' B p A cp nv { r with xs := ys } :=
  ⟨h.row.only ho (fun e => h.far (.inr e) rfl), own_only h.notes ho (fun i hi e => (h.farN hi).2 (.inr e)), hm⟩
theorem RunP.keep (h : RunP w B p A cp nv r) (ho : Only Nil w w') : RunP w' B p A cp nv r := h.call (ho.mono (fun _ _ h => h.elim)) (h.memo.keep ho)
theorem RunP.apart (h : RunP w B p A cp nv r) (ho : Only S w w') (hb : ¬ S B) (hm : ∀ j, At p j ∨ At A j → ¬ S j) (hn : ∀ i, nv.ownBlock = some i → ¬ S i) : RunP w' B p A cp nv r :=
  ⟨h.row.only ho hb, own_only h.notes ho hn, h.memo.far ho hm⟩
theorem RunP.turn (h : RunP w B p A cp nv r) (ho : Only (· = B) w w') (hr : Row w' B 102 (r'.cells (.pointer p) nv)) (hn : r'.ns = r.ns) (hx : r'.xs = r.xs) : RunP w' B p A cp nv r' :=
  ⟨hr, by rw [hn]; exact own_only h.notes ho (fun i hi => (h.farN hi).1), by rw [hx]; exact h.memo.far ho (fun j hj => h.far hj)⟩
theorem RunP.len (h : RunP w B p A cp nv r) : r.xs.length ≤ 1024 := by
  rcases h.memo with ⟨_, hx, _⟩ | ⟨b, _, hm⟩
  · rw [hx]; exact Nat.zero_le _
  · exact hm.len
theorem Only.turned1 (h : Only (· = B) w w') : Only (TurnB B A) w w' := h.mono (fun _ _ e => .inl e)
theorem Only.turned2 (h : Only (At A) w w') : Only (TurnB B A) w w' := h.mono (fun _ _ e => .inr e)

/-- The access is set. -/
theorem set_acc_only (h : Only S w w') (hg : S B) (v0 v1 v2 v3 v4 : Value) :
    Only S w (((((w'.setCell ⟨B, 14, none⟩ v0).setCell ⟨B, 15, none⟩ v1).setCell ⟨B, 16, none⟩ v2).setCell ⟨B, 17, none⟩ v3).setCell ⟨B, 18, none⟩ v4) :=
  ((((h.setCell (p := ⟨B, 14, none⟩) (.inr hg) v0).setCell (p := ⟨B, 15, none⟩) (.inr hg) v1).setCell (p := ⟨B, 16, none⟩) (.inr hg) v2).setCell (p := ⟨B, 17, none⟩) (.inr hg) v3).setCell (p := ⟨B, 18, none⟩) (.inr hg) v4
theorem set_acc_row {t : TypeId} {hv : Value} (h : Row w B t (r.cells hv nv)) (a : Acc5) :
    Row (((((w.setCell ⟨B, 14, none⟩ (.int .i64 a.k)).setCell ⟨B, 15, none⟩ (.int .i64 a.c)).setCell ⟨B, 16, none⟩ (.int .u32 a.x)).setCell ⟨B, 17, none⟩ (.int .u32 a.y)).setCell ⟨B, 18, none⟩ (.int .u32 a.o)) B t (({ r with acc := a } : LS).cells hv nv) := by
  have e := ((((h.set 14 (.int .i64 a.k)).set 15 (.int .i64 a.c)).set 16 (.int .u32 a.x)).set 17 (.int .u32 a.y)).set 18 (.int .u32 a.o)
  exact e
theorem RunP.setAcc (h : RunP w B p A cp nv r) (a : Acc5) :
    RunP (((((w.setCell ⟨B, 14, none⟩ (.int .i64 a.k)).setCell ⟨B, 15, none⟩ (.int .i64 a.c)).setCell ⟨B, 16, none⟩ (.int .u32 a.x)).setCell ⟨B, 17, none⟩ (.int .u32 a.y)).setCell ⟨B, 18, none⟩ (.int .u32 a.o)) B p A cp nv { r with acc := a } :=
  h.turn (set_acc_only (Only.refl (· = B) _) rfl _ _ _ _ _) (set_acc_row h.row a) rfl rfl
end

set_option maxRecDepth 100000 in
set_option maxHeartbeats 1000000 in
theorem access_run (B : Nat) (p A : Option Addr) (cp : Nat) (nv : Value) (r : LS) (k c x y o : Int) (w : World) (h : RunP w B p A cp nv r) (hk : isKind k = true) :
    Calls Tryz.prog 189 #[.pointer (some ⟨B, 0, none⟩), .agg #[.int .i64 k, .int .i64 c, .int .u32 x, .int .u32 y, .int .u32 o]] w fun e w' =>
      e = .returned (.tuple #[.int .u32 (wordAt r.xs c), .bool (doOk r.xs k c)]) ∧ Only (TurnB B A) w w' ∧ RunP w' B p A cp nv (r.doA k c x y) := by
  have HK := Lib.hid hk
  have e0 := (Only.refl Nil w).alloc (.cells #[.int .i64 k, .int .i64 c, .int .u32 x, .int .u32 y, .int .u32 o] 63)
  have HP := Lib.hid (h.keep e0)
  have HO := Lib.hid (e0.mono (T := TurnB B A) (fun _ _ h => h.elim))
  have HB := Lib.hid (Row.new w 63 #[.int .i64 k, .int .i64 c, .int .u32 x, .int .u32 y, .int .u32 o])
  have HL := Lib.hid (show ∀ j, At p j ∨ At A j → j < w.heap.size from h.memo.lt)
  clear h hk e0
  go_enter Tryz.func189, Tryz.ntmps189
  go_upto_region 3 with (fail)
  generalize w.alloc (.cells #[.int .i64 k, .int .i64 c, .int .u32 x, .int .u32 y, .int .u32 o] 63) = w1 at *
  generalize w.heap.size = g at *
  have m0 : w1.cell? ⟨B, 0, none⟩ = some (.pointer p) := HP.out.row.cell_ (i := 0) rfl
  have a0 : w1.cell? ⟨g, 0, none⟩ = some (.int .i64 k) := HB.out.cell_ (i := 0) rfl
  have a1 : w1.cell? ⟨g, 1, none⟩ = some (.int .i64 c) := HB.out.cell_ (i := 1) rfl
  have a2 : w1.cell? ⟨g, 2, none⟩ = some (.int .u32 x) := HB.out.cell_ (i := 2) rfl
  have a3 : w1.cell? ⟨g, 3, none⟩ = some (.int .u32 y) := HB.out.cell_ (i := 3) rfl
  have a4 : w1.cell? ⟨g, 4, none⟩ = some (.int .u32 o) := HB.out.cell_ (i := 4) rfl
  refine wp_region_phase (n := 14) 6 (fun w => w.cell? ⟨B, 0, none⟩ = some (.pointer p) ∧ w.cell? ⟨g, 0, none⟩ = some (.int .i64 k) ∧ w.cell? ⟨g, 1, none⟩ = some (.int .i64 c) ∧ w.cell? ⟨g, 2, none⟩ = some (.int .u32 x) ∧ w.cell? ⟨g, 3, none⟩ = some (.int .u32 y) ∧ w.cell? ⟨g, 4, none⟩ = some (.int .u32 o)) rfl (by kernel_rfl) ⟨m0, a0, a1, a2, a3, a4⟩ (fun hHeld => ?_)
  have HP1 := Lib.hid (HP.out.keep (Only.refl Nil w1).drew)
  have HO1 := Lib.hid (HO.out.drew)
  clear m0 a0 a1 a2 a3 a4 HP HO HB
  generalize w1.drew = w2 at *
  refine za 0 rfl ?_
  refine za 1 rfl ?_
  refine za 2 rfl ?_
  refine za 3 rfl ?_
  refine zt 4 rfl ?_
  refine zt 5 rfl ?_
  refine mpc 6 rfl (by kernel_rfl) (by rfl) (fun K hK => ?_)
  go_simp
  refine (do_memo p A cp r.xs k c x y o _ HP1.out.memo).mono ?_
  rw [doVal_acc]
  rintro e w3 ⟨rfl, hO, hM⟩
  have HP2 := Lib.hid (HP1.out.call hO hM)
  have HO2 := Lib.hid (HO1.out.trans hO.turned2)
  refine hK.out _ _ (.inl (by kernel_rfl)) ?_
  clear hK K hHeld hO hM HP1 HO1
  have HW := Lib.hid (acc_old (xs := r.xs) (k := k) (c := c) (x := x) (y := y) HK.out)
  have HD := Lib.hid (show r.doA k c x y = { r with acc := accI r.xs k c x y, xs := doNew r.xs k c x y } from rfl)
  generalize accI r.xs k c x y = ac at *
  dsimp only [Acc5.v]
  refine za 7 rfl ?_
  refine za 8 rfl ?_
  refine za 9 rfl ?_
  refine za 10 rfl ?_
  refine za 11 rfl ?_
  have a14 : w3.cell? ⟨B, 14, none⟩ = some (.int .i64 r.acc.k) := HP2.out.row.cell_ (i := 14) rfl
  have a15 : w3.cell? ⟨B, 15, none⟩ = some (.int .i64 r.acc.c) := HP2.out.row.cell_ (i := 15) rfl
  have a16 : w3.cell? ⟨B, 16, none⟩ = some (.int .u32 r.acc.x) := HP2.out.row.cell_ (i := 16) rfl
  have a17 : w3.cell? ⟨B, 17, none⟩ = some (.int .u32 r.acc.y) := HP2.out.row.cell_ (i := 17) rfl
  have a18 : w3.cell? ⟨B, 18, none⟩ = some (.int .u32 r.acc.o) := HP2.out.row.cell_ (i := 18) rfl
  have f14 : w3.frozen? ⟨B, 14, none⟩ = false := HP2.out.row.frozen 14
  have f15 : w3.frozen? ⟨B, 15, none⟩ = false := HP2.out.row.frozen 15
  have f16 : w3.frozen? ⟨B, 16, none⟩ = false := HP2.out.row.frozen 16
  have f17 : w3.frozen? ⟨B, 17, none⟩ = false := HP2.out.row.frozen 17
  have f18 : w3.frozen? ⟨B, 18, none⟩ = false := HP2.out.row.frozen 18
  refine mpc 12 rfl (by kernel_rfl) (by rfl) (fun K hK => ?_)
  go_simp
  have HP3 := Lib.hid (HP2.out.setAcc ac)
  have HO3 := Lib.hid (set_acc_only HO2.out (B := B) (.inl rfl) (.int .i64 ac.k) (.int .i64 ac.c) (.int .u32 ac.x) (.int .u32 ac.y) (.int .u32 ac.o))
  refine hK.out _ _ (.inl (by kernel_rfl)) ?_
  clear hK K HP2 HO2 a14 a15 a16 a17 a18 f14 f15 f16 f17 f18
  generalize (((((w3.setCell ⟨B, 14, none⟩ (.int .i64 ac.k)).setCell ⟨B, 15, none⟩ (.int .i64 ac.c)).setCell ⟨B, 16, none⟩ (.int .u32 ac.x)).setCell ⟨B, 17, none⟩ (.int .u32 ac.y)).setCell ⟨B, 18, none⟩ (.int .u32 ac.o)) = w4 at *

  refine za 13 rfl ?_
  refine wpAnyP_done (by kernel_rfl) ?_ _
  have a18 : w4.cell? ⟨B, 18, none⟩ = some (.int .u32 ac.o) := HP3.out.row.cell_ (i := 18) rfl
  go_wp2
  go_ret2
  exact ⟨two_eq HW.out rfl, HO3.out, by rw [HD.out]; exact HP3.out⟩
end Go.Proofs.YtigdbokfapedcaaGreat
/- A world, the program's: its memory; how many tasks; is a task there. -/
set_option linter.unusedVariables false
set_option linter.unusedSimpArgs false
namespace Go.Proofs.YtigdbokfapedcaaGreat
open Go.RowKit
def wdCs (b : Nat) (kind mode : Int) (gt k : Nat) : Array Value := #[.int .i64 kind, .int .i64 mode, linesF kind, .pointer (some ⟨b, 0, none⟩), .int .i64 k, .slice (some ⟨gt, 0, none⟩) k k]
structure WdP (w : World) (g gt b : Nat) (A : Option Addr) (cp : Nat) (kind mode : Int) (k : Nat) (m : MV) : Prop where
  row : Row w g 57 (wdCs b kind mode gt k)
  mem : Mem w b A cp m.xs
  tasks : Tasks w gt k m.hold m.rs
theorem Tasks.rowT {w : World} {g k : Nat} {h : Nat → Int} {f : Nat → LS} (T : Tasks w g k h f) : ∃ cs, Row w g 86 cs := by
  obtain ⟨cs, hr, _⟩ := T.row
  exact ⟨cs, hr⟩
section
variable {w w' : World} {g gt b cp k B : Nat} {A : Option Addr} {kind mode : Int} {m : MV} {S : Nat → Prop}
theorem WdP.keep (h : WdP w g gt b A cp kind mode k m) (ho : Only Nil w w') : WdP w' g gt b A cp kind mode k m :=
  ⟨h.row.only ho id, h.mem.only ho id (fun _ _ => id), h.tasks.only ho id⟩
theorem WdP.lt (h : WdP w g gt b A cp kind mode k m) : g < w.heap.size ∧ gt < w.heap.size ∧ b < w.heap.size ∧ ∀ j, At A j → j < w.heap.size := by
  obtain ⟨cs, hr⟩ := h.tasks.rowT
  exact ⟨h.row.lt, hr.lt, h.mem.hdr.lt, h.mem.own.lt⟩
theorem WdP.ne (h : WdP w g gt b A cp kind mode k m) : g ≠ gt ∧ g ≠ b ∧ gt ≠ b ∧ ¬ At A g ∧ ¬ At A gt ∧ ¬ At A b := by
  obtain ⟨cs, hr⟩ := h.tasks.rowT
  have ha : ∀ i t cs, Row w i t cs → t ≠ 22 → ¬ At A i := fun i t cs hi ht hA => by
    obtain ⟨cur, hc⟩ := own_tag h.mem.own hA
    exact ht (hi.same hc).1
  exact ⟨row_ne h.row hr (by decide), row_ne h.row h.mem.hdr (by decide), row_ne hr h.mem.hdr (by decide), ha _ _ _ h.row (by decide), ha _ _ _ hr (by decide), ha _ _ _ h.mem.hdr (by decide)⟩
/-- The words are turned. -/
theorem WdP.words (h : WdP w g gt b A cp kind mode k m) (hB : g ≠ B ∧ gt ≠ B) (ho : Only (TurnB B A) w w') {xs : List Int} (hm : Mem w' b A cp xs) : WdP w' g gt b A cp kind mode k { m with xs := xs } := by
  have hn := h.ne
  refine ⟨h.row.only ho ?_, hm, h.tasks.only ho ?_⟩
  · rintro (e | hA)
    · exact hB.1 e
    · exact hn.2.2.2.1 hA
  · rintro (e | hA)
    · exact hB.2 e
    · exact hn.2.2.2.2.1 hA
/-- The tasks are turned. -/
theorem WdP.turnT (h : WdP w g gt b A cp kind mode k m) (ho : Only (· = gt) w w') {f : Nat → LS} {hd : Nat → Int} (ht : Tasks w' gt k hd f) : WdP w' g gt b A cp kind mode k ⟨f, hd, m.xs⟩ := by
  have hn := h.ne
  exact ⟨h.row.only ho hn.1, h.mem.only ho (fun e => hn.2.2.1 e.symm) (fun i hi e => hn.2.2.2.2.1 (e ▸ hi)), ht⟩
end
theorem woN_any (g gt b : Nat) (A : Option Addr) (cp : Nat) (kind mode : Int) (k : Nat) (m : MV) (w : World) (h : WdP w g gt b A cp kind mode k m) :
    Calls Tryz.prog 43 #[.pointer (some ⟨g, 0, none⟩)] w fun e w' => e = .returned (.int .i64 k) ∧ w = w' := by
  have a5 : w.cell? ⟨g, 5, none⟩ = some (.slice (some ⟨gt, 0, none⟩) k k) := h.row.cell_ (i := 5) rfl
  clear h
  go_enter Tryz.func43, Tryz.ntmps43
  go_wp2
  go_ret
  exact ⟨rfl, rfl⟩
theorem woN_nil (w : World) : Calls Tryz.prog 43 #[.pointer none] w fun e w' => e = .returned (.int .i64 0) ∧ w = w' := by
  go_enter Tryz.func43, Tryz.ntmps43
  go_wp2
  go_ret
  exact ⟨rfl, rfl⟩
theorem woHas_of (v : Value) (k : Nat) (t : Int) (w : World) (h : Calls Tryz.prog 43 #[v] w fun e w' => e = .returned (.int .i64 k) ∧ w = w') :
    Calls Tryz.prog 24 #[v, .int .i64 t] w fun e w' => e = .returned (.bool (decide (0 ≤ t ∧ t < k))) ∧ w = w' := by
  by_cases h0 : 0 ≤ t
  · have HT := Lib.hid h0
    have HN := Lib.hid h
    clear h
    go_enter Tryz.func24, Tryz.ntmps24
    go_wp2_with fail
    refine HN.out.mono ?_
    rintro e w1 ⟨rfl, rfl⟩
    go_wp2
    go_ret
    exact ⟨ret_bool (by have := HT.out; simp [this]), rfl⟩
  · have HT := Lib.hid h0
    clear h
    go_enter Tryz.func24, Tryz.ntmps24
    go_wp2
    go_ret
    exact ⟨ret_bool (by have := HT.out; simp; omega), rfl⟩
theorem woHas_any (g gt b : Nat) (A : Option Addr) (cp : Nat) (kind mode : Int) (k : Nat) (m : MV) (t : Int) (w : World) (h : WdP w g gt b A cp kind mode k m) :
    Calls Tryz.prog 24 #[.pointer (some ⟨g, 0, none⟩), .int .i64 t] w fun e w' => e = .returned (.bool (decide (0 ≤ t ∧ t < k))) ∧ w = w' := woHas_of _ k t w (woN_any g gt b A cp kind mode k m w h)
theorem woHas_nil (t : Int) (w : World) : Calls Tryz.prog 24 #[.pointer none, .int .i64 t] w fun e w' => e = .returned (.bool false) ∧ w = w' := by
  have h := woHas_of (.pointer none) 0 t w (woN_nil w)
  rwa [decide_eq_false (by omega)] at h
end Go.Proofs.YtigdbokfapedcaaGreat
/- A run's calls, the program's: Load, Cas, Go, Wake, Note. -/
set_option linter.unusedVariables false
set_option linter.unusedSimpArgs false
namespace Go.Proofs.YtigdbokfapedcaaGreat
open Go.RowKit

/-- A call that tells v, and leaves the run r. -/
def Done (B : Nat) (p A : Option Addr) (cp : Nat) (w : World) (v : Value) (r : LS) (e : Ending) (w' : World) : Prop :=
  e = .returned v ∧ Only (TurnB B A) w w' ∧ ∃ nv, RunP w' B p A cp nv r

section
variable (B : Nat) (p A : Option Addr) (cp : Nat) (nv : Value) (r : LS) (c x y : Int) (w : World)
theorem load_run (h : RunP w B p A cp nv r) : Calls Tryz.prog 107 #[.pointer (some ⟨B, 0, none⟩), .int .i64 c] w (Done B p A cp w (.int .u32 (wordAt r.xs c)) (r.doA 1 c 0 0)) := by
  go_enter Tryz.func107, Tryz.ntmps107
  go_wp2_with fail
  refine (access_run B p A cp nv r 1 c 0 0 0 _ h rfl).mono ?_
  rintro e w1 ⟨rfl, hO, hP⟩
  have HO := Lib.hid hO
  have HP := Lib.hid hP
  clear hO hP h
  go_wp2
  go_ret
  exact ⟨rfl, HO.out, nv, HP.out⟩
theorem cas_run (h : RunP w B p A cp nv r) : Calls Tryz.prog 110 #[.pointer (some ⟨B, 0, none⟩), .int .i64 c, .int .u32 x, .int .u32 y] w (Done B p A cp w (.bool (there r.xs c && (wordAt r.xs c == x))) (r.doA 5 c x y)) := by
  have hok : doOk r.xs 5 c = there r.xs c := by simp [doOk, isKind]
  have HK := Lib.hid hok
  clear hok
  cases ht : there r.xs c
  · have HT := Lib.hid ht
    clear ht
    go_enter Tryz.func110, Tryz.ntmps110
    go_wp2_with fail
    refine (access_run B p A cp nv r 5 c x y 0 _ h rfl).mono ?_
    rw [HK.out, HT.out]
    rintro e w1 ⟨rfl, hO, hP⟩
    have HO := Lib.hid hO
    have HP := Lib.hid hP
    clear hO hP h
    go_wp2
    go_ret
    exact ⟨rfl, HO.out, nv, HP.out⟩
  · have HT := Lib.hid ht
    clear ht
    go_enter Tryz.func110, Tryz.ntmps110
    go_wp2_with fail
    refine (access_run B p A cp nv r 5 c x y 0 _ h rfl).mono ?_
    rw [HK.out, HT.out]
    rintro e w1 ⟨rfl, hO, hP⟩
    have HO := Lib.hid hO
    have HP := Lib.hid hP
    clear hO hP h
    go_wp2
    go_ret
    exact ⟨rfl, HO.out, nv, HP.out⟩

theorem RunP.setLine {w : World} {B : Nat} {p A : Option Addr} {cp : Nat} {nv : Value} {r : LS} (h : RunP w B p A cp nv r) (l : Int) : RunP (w.setCell ⟨B, 5, none⟩ (.int .i64 l)) B p A cp nv (r.go l) :=
  h.turn ((Only.refl (· = B) w).setCell (p := ⟨B, 5, none⟩) (.inr rfl) _) (h.row.set 5 (.int .i64 l)) rfl rfl
theorem go_run (h : RunP w B p A cp nv r) : Calls Tryz.prog 95 #[.pointer (some ⟨B, 0, none⟩), .int .i64 c] w (Done B p A cp w (.tuple #[]) (r.go c)) := by
  have c5 : w.cell? ⟨B, 5, none⟩ = some (.int .i64 r.line) := h.row.cell_ (i := 5) rfl
  have f5 : w.frozen? ⟨B, 5, none⟩ = false := h.row.frozen 5
  have HP := Lib.hid h
  clear h
  go_enter Tryz.func95, Tryz.ntmps95
  go_wp2
  go_returns
  exact ⟨rfl, (Only.refl (TurnB B A) w).setCell (p := ⟨B, 5, none⟩) (.inr (.inl rfl)) _, nv, HP.out.setLine c⟩

end

theorem set_wake_only {S : Nat → Prop} {w w' : World} {B : Nat} (h : Only S w w') (hg : S B) (v0 v1 v2 v3 : Value) :
    Only S w ((((w'.setCell ⟨B, 9, none⟩ v0).setCell ⟨B, 10, none⟩ v1).setCell ⟨B, 11, none⟩ v2).setCell ⟨B, 12, none⟩ v3) :=
  (((h.setCell (p := ⟨B, 9, none⟩) (.inr hg) v0).setCell (p := ⟨B, 10, none⟩) (.inr hg) v1).setCell (p := ⟨B, 11, none⟩) (.inr hg) v2).setCell (p := ⟨B, 12, none⟩) (.inr hg) v3
theorem set_wake_row {w : World} {B : Nat} {t : TypeId} {hv nv : Value} {r : LS} (h : Row w B t (r.cells hv nv)) (k : WkV) :
    Row ((((w.setCell ⟨B, 9, none⟩ (.bool k.on)).setCell ⟨B, 10, none⟩ (.int .i64 k.c)).setCell ⟨B, 11, none⟩ (.int .i64 k.i)).setCell ⟨B, 12, none⟩ (.bool k.hit)) B t (({ r with k := k } : LS).cells hv nv) := by
  have e := (((h.set 9 (.bool k.on)).set 10 (.int .i64 k.c)).set 11 (.int .i64 k.i)).set 12 (.bool k.hit)
  exact e
theorem RunP.setWake {w : World} {B : Nat} {p A : Option Addr} {cp : Nat} {nv : Value} {r : LS} (h : RunP w B p A cp nv r) (k : WkV) :
    RunP ((((w.setCell ⟨B, 9, none⟩ (.bool k.on)).setCell ⟨B, 10, none⟩ (.int .i64 k.c)).setCell ⟨B, 11, none⟩ (.int .i64 k.i)).setCell ⟨B, 12, none⟩ (.bool k.hit)) B p A cp nv { r with k := k } :=
  h.turn (set_wake_only (Only.refl (· = B) w) rfl _ _ _ _) (set_wake_row h.row k) rfl rfl
theorem wake_run (B : Nat) (p A : Option Addr) (cp : Nat) (nv : Value) (r : LS) (c : Int) (w : World) (h : RunP w B p A cp nv r) :
    Calls Tryz.prog 105 #[.pointer (some ⟨B, 0, none⟩), .int .i64 c] w (Done B p A cp w (.tuple #[]) (r.wake c)) := by
  have c2 : w.cell? ⟨B, 2, none⟩ = some (.int .i64 r.mode) := h.row.cell_ (i := 2) rfl
  have HP := Lib.hid h
  clear h
  go_enter Tryz.func105, Tryz.ntmps105
  go_wp2_with fail
  clear c2
  refine (begin_any r.mode c _).mono ?_
  rintro e w1 ⟨rfl, hO⟩
  have HP1 := Lib.hid (HP.out.keep hO)
  have HO := Lib.hid (hO.mono (T := TurnB B A) (fun _ _ h => h.elim))
  clear hO HP
  have HD := Lib.hid (show r.wake c = { r with k := beginI r.mode c } from rfl)
  generalize beginI r.mode c = k at *
  dsimp only [WkV.v]
  have a9 : w1.cell? ⟨B, 9, none⟩ = some (.bool r.k.on) := HP1.out.row.cell_ (i := 9) rfl
  have a10 : w1.cell? ⟨B, 10, none⟩ = some (.int .i64 r.k.c) := HP1.out.row.cell_ (i := 10) rfl
  have a11 : w1.cell? ⟨B, 11, none⟩ = some (.int .i64 r.k.i) := HP1.out.row.cell_ (i := 11) rfl
  have a12 : w1.cell? ⟨B, 12, none⟩ = some (.bool r.k.hit) := HP1.out.row.cell_ (i := 12) rfl
  have f9 : w1.frozen? ⟨B, 9, none⟩ = false := HP1.out.row.frozen 9
  have f10 : w1.frozen? ⟨B, 10, none⟩ = false := HP1.out.row.frozen 10
  have f11 : w1.frozen? ⟨B, 11, none⟩ = false := HP1.out.row.frozen 11
  have f12 : w1.frozen? ⟨B, 12, none⟩ = false := HP1.out.row.frozen 12
  go_wp2
  clear a9 a10 a11 a12 f9 f10 f11 f12
  go_returns
  exact ⟨rfl, set_wake_only HO.out (.inl rfl) _ _ _ _, nv, by rw [HD.out]; exact HP1.out.setWake k⟩

/-- A list that is cut to its length. -/
def cutV : Value → Value
  | .slice A n c => .slice A n n
  | v => v
theorem clip_any (v : Value) (zs : List Nt) (w : World) (h : OwnN 0 w v zs) : Calls Tryz.prog 153 #[v] w fun e w' => e = .returned (cutV v) ∧ w = w' := by
  rcases h.2 with ⟨rfl, hn⟩ | ⟨g, cap, cur, rfl, _, hg, hc, _⟩
  · clear h
    go_enter Tryz.func153, Tryz.ntmps153
    go_wp2
    go_ret
    exact ⟨rfl, rfl⟩
  · generalize zs.length = n at *
    clear h hg
    go_enter Tryz.func153, Tryz.ntmps153
    go_wp2
    go_ret
    exact ⟨rfl, rfl⟩

/-- append to a list that was cut to its length: a new list. -/
theorem run_append_cut (ty : TypeId) (v : Value) (zs : List Nt) (w : World) (g : Nat) (n : Nt) (hown : OwnN 0 w v zs) (hrow : Row w g 59 #[.int .i64 n.t, .int .i64 n.w, .int .i64 n.o, .int .i64 n.a]) (h1 : zs.length ≤ 1000) :
    ∃ v' w', (Builtin.append_ #[29, 29] ty #[cutV v, .slice (some ⟨g, 0, none⟩) 1 1]).run Tryz.prog w = .ok v' w' ∧ OwnN 0 w' v' (zs ++ [n]) ∧ Only Nil w w' := by
  obtain ⟨i0, hi, hz0, hz1, hz2⟩ := info_parts infoN
  have hnews : ∀ j u, (flat1 n)[j]? = some u → w.cell? ((⟨g, 0, none⟩ : Addr).add j) = some u := fun j u hj => by
    rw [add_at, Nat.zero_add]
    exact hrow.cell_ (by rw [← hj]; simp [flat1])
  have hlen : (flat (zs ++ [n])).length = (zs.length + 1) * 4 := by rw [flat_len, List.length_append]; rfl
  have hfl : flat (zs ++ [n]) = flat zs ++ flat1 n := by rw [flat_app]; exact congrArg _ (List.append_nil _)
  have grown : ∀ old, OwnN 0 (w.drew.alloc (.cells ((flat zs).toArray ++ (flat1 n).toArray ++ Builtin.zeroCells (Value.agg #[.int .i64 0, .int .i64 0, .int .i64 0, .int .i64 0]).cells (grownCap w (zs.length + 1) old 59 - (zs.length + 1))) 59)) (.slice (some ⟨w.heap.size, 0, none⟩) (zs.length + 1) (grownCap w (zs.length + 1) old 59)) (zs ++ [n]) := by
    intro old
    have hge := grownCap_ge w (zs.length + 1) old 59
    have hcm := grownCap_le_maxLen w (zs.length + 1) old 59 (by unfold maxLen; omega)
    unfold OwnN
    rw [show (zs ++ [n]).length = zs.length + 1 by rw [List.length_append]; rfl]
    refine ⟨hlen, .inr ⟨w.heap.size, _, _, rfl, Nat.zero_le _, heap_alloc_new w.drew _, hge, hcm, ?_, ?_⟩⟩
    · simp only [Array.size_append, List.size_toArray, size_zeroCells, flat_len]
      show zs.length * 4 + 4 + _ * 4 = _
      omega
    · simp only [Array.toList_append]
      rw [← hfl, ← hlen]
      exact List.take_left
  rcases hown.2 with ⟨rfl, hn⟩ | ⟨q, cap, cur, rfl, _, hq, _⟩
  · obtain rfl := List.eq_nil_of_length_eq_zero hn
    have hr := run_append_nil (P := Tryz.prog) w 29 ty 59 i0 _ Tryz.underlying29 hi hz0 ⟨g, 0, none⟩ 1 1 (flat1 n) (by rw [hz1]; rfl) hnews (by decide) (by decide) (by rw [hz2]; decide)
    have hg := grown 0
    simp only [flat, List.length_nil, Nat.zero_add, Array.empty_append] at hg
    exact ⟨_, _, hr, hg, (Only.refl Nil w).drew.alloc _⟩
  · have holds : ∀ j u, (flat zs)[j]? = some u → w.cell? ((⟨q, 0, none⟩ : Addr).add j) = some u := World.ownsRow.cells hown (g := q) rfl
    have hr := run_append_grow (P := Tryz.prog) w 29 ty 59 i0 _ Tryz.underlying29 hi hz0 ⟨q, 0, none⟩ zs.length zs.length (flat zs) (by rw [hz1]; exact flat_len zs) holds ⟨g, 0, none⟩ 1 1 (flat1 n) (by rw [hz1]; rfl) hnews (by omega) (by omega) (growslice_fits (by omega) (by rw [hz2]; omega))
    exact ⟨_, _, hr, grown _, (Only.refl Nil w).drew.alloc _⟩
end Go.Proofs.YtigdbokfapedcaaGreat
/- A turn's step: its own three blocks. -/
set_option linter.unusedVariables false
set_option linter.unusedSimpArgs false
namespace Go.Proofs.YtigdbokfapedcaaGreat
open Go.RowKit

/-- A step's own blocks: the turn, the results. -/
structure TF (w0 : World) (p A : Option Addr) (cp : Nat) (B : Nat) (tv nv acs : Array Value) (W : World) (xs : List Int) : Prop where
  only : Only (At A) w0 W
  memo : Memo W p A cp xs
  rt : Row W B 221 tv
  rn : Row W (B + 1) 82 nv
  ra : Row W (B + 1 + 1) 63 acs
  lt : ∀ j, At p j ∨ At A j → j < B
  hw : w0.heap.size ≤ B

section
variable {w0 W W' : World} {p A : Option Addr} {cp B : Nat} {tv nv acs : Array Value} {xs ys : List Int}
theorem TF.call (h : TF w0 p A cp B tv nv acs W xs) (ho : Only (At A) W W') (hm : Memo W' p A cp ys) : TF w0 p A cp B tv nv acs W' ys :=
  ⟨h.only.trans ho, hm, h.rt.only ho (fun e => by have := h.lt _ (.inr e); omega), h.rn.only ho (fun e => by have := h.lt _ (.inr e); omega), h.ra.only ho (fun e => by have := h.lt _ (.inr e); omega), h.lt, h.hw⟩
theorem TF.keep (h : TF w0 p A cp B tv nv acs W xs) (ho : Only Nil W W') : TF w0 p A cp B tv nv acs W' xs := h.call (ho.mono (fun _ _ h => h.elim)) (h.memo.keep ho)
theorem TF.setN {a0 a1 a2 a3 : Value} (h : TF w0 p A cp B tv #[a0, a1, a2, a3] acs W xs) (v0 v1 v2 v3 : Value) :
    TF w0 p A cp B tv #[v0, v1, v2, v3] acs ((((W.setCell ⟨B + 1, 0, none⟩ v0).setCell ⟨B + 1, 1, none⟩ v1).setCell ⟨B + 1, 2, none⟩ v2).setCell ⟨B + 1, 3, none⟩ v3) xs := by
  have ho := four_only (Only.refl (· = B + 1) W) (g := B + 1) (.inr rfl) v0 v1 v2 v3
  exact ⟨four_only h.only (.inl (by have := h.hw; omega)) _ _ _ _, h.memo.far ho (fun j hj e => by have := h.lt j hj; omega), h.rt.only ho (fun e => by omega), four h.rn _ _ _ _, h.ra.only ho (fun e => by omega), h.lt, h.hw⟩
theorem TF.setA {a0 a1 a2 a3 a4 : Value} (h : TF w0 p A cp B tv nv #[a0, a1, a2, a3, a4] W xs) (v0 v1 v2 v3 v4 : Value) :
    TF w0 p A cp B tv nv #[v0, v1, v2, v3, v4] (((((W.setCell ⟨B + 1 + 1, 0, none⟩ v0).setCell ⟨B + 1 + 1, 1, none⟩ v1).setCell ⟨B + 1 + 1, 2, none⟩ v2).setCell ⟨B + 1 + 1, 3, none⟩ v3).setCell ⟨B + 1 + 1, 4, none⟩ v4) xs := by
  have ho := five_only (Only.refl (· = B + 1 + 1) W) (g := B + 1 + 1) (.inr rfl) v0 v1 v2 v3 v4
  exact ⟨five_only h.only (.inl (by have := h.hw; omega)) _ _ _ _ _, h.memo.far ho (fun j hj e => by have := h.lt j hj; omega), h.rt.only ho (fun e => by omega), h.rn.only ho (fun e => by omega), five h.ra _ _ _ _ _, h.lt, h.hw⟩
theorem TF.far {g : Nat} (h : TF w0 p A cp B tv nv acs W xs) (ho : Only (· = g) W W') (hg : B + 1 + 1 < g) : TF w0 p A cp B tv nv acs W' xs :=
  ⟨h.only.step ho (fun i hi e => by have := h.hw; omega), h.memo.far ho (fun j hj e => by have := h.lt j hj; omega), h.rt.only ho (fun e => by omega), h.rn.only ho (fun e => by omega), h.ra.only ho (fun e => by omega), h.lt, h.hw⟩
theorem TF.start {w : World} {p A : Option Addr} {cp : Nat} {xs : List Int} (tv : Array Value) (h : Memo w p A cp xs) :
    TF w p A cp w.heap.size tv #[.bool false, .int .i64 0, .int .i64 0, .bool false] #[.int .i64 0, .int .i64 0, .int .u32 0, .int .u32 0, .int .u32 0] (((w.alloc (.cells tv 221)).alloc (.cells #[.bool false, .int .i64 0, .int .i64 0, .bool false] 82)).alloc (.cells #[.int .i64 0, .int .i64 0, .int .u32 0, .int .u32 0, .int .u32 0] 63)) xs := by
  have e0 := (((Only.refl Nil w).alloc (.cells tv 221)).alloc (.cells #[.bool false, .int .i64 0, .int .i64 0, .bool false] 82)).alloc (.cells #[.int .i64 0, .int .i64 0, .int .u32 0, .int .u32 0, .int .u32 0] 63)
  refine ⟨e0.mono (fun _ _ h => h.elim), h.keep e0, ((Row.new w _ _).alloc _).alloc _, (Row.new2 w _ _ _).alloc _, ?_, h.lt, Nat.le_refl _⟩
  have e := Row.new2 (w.alloc (.cells tv 221)) (.cells #[.bool false, .int .i64 0, .int .i64 0, .bool false] 82) 63 #[.int .i64 0, .int .i64 0, .int .u32 0, .int .u32 0, .int .u32 0]
  rwa [show (w.alloc (.cells tv 221)).heap.size = w.heap.size + 1 by simp] at e
end

/-- What a turn's step leaves: the wake-up behind it, the access, was it done. -/
def Turned (p A : Option Addr) (cp : Nat) (nx : WkV) (acc : Value) (ok : Bool) (ys : List Int) (w : World) (e : Ending) (w' : World) : Prop :=
  e = .returned (.tuple #[nx.v, acc, .bool ok]) ∧ Only (At A) w w' ∧ Memo w' p A cp ys
end Go.Proofs.YtigdbokfapedcaaGreat
/- turn.at, turn.end. -/
set_option linter.unusedVariables false
set_option linter.unusedSimpArgs false
namespace Go.Proofs.YtigdbokfapedcaaGreat
open Go.RowKit

theorem at_any (p : Option Addr) (n : Int) (on : Bool) (c i : Int) (hit : Bool) (j : Int) (b : Bool) (w : World) :
    Calls Tryz.prog 289 #[.agg #[.pointer p, .int .i64 n, .bool on, .int .i64 c, .int .i64 i, .bool hit], .int .i64 j, .bool b] w fun e w' =>
      e = .returned (.agg #[.bool true, .int .i64 c, .int .i64 j, .bool b]) ∧ Only Nil w w' := by
  go_enter Tryz.func289, Tryz.ntmps289
  go_wp2
  refine post_row (P := Tryz.prog) Tryz.results289 (t := 82) (by rfl) (Row.new2 _ _ _ _) Tryz.underlying82 rfl (by kernel_rfl) rfl ⟨rfl, ((Only.refl Nil w).alloc _).alloc _⟩

theorem end_any (p : Option Addr) (n : Int) (on : Bool) (c i : Int) (hit : Bool) (w : World) :
    Calls Tryz.prog 287 #[.agg #[.pointer p, .int .i64 n, .bool on, .int .i64 c, .int .i64 i, .bool hit]] w fun e w' =>
      e = .returned (.agg #[.bool true, .int .i64 c, .int .i64 n, .bool false]) ∧ Only Nil w w' := by
  go_enter Tryz.func287, Tryz.ntmps287
  go_wp2_with fail
  refine (at_any p n on c i hit n false _).mono ?_
  rintro e w1 ⟨rfl, hO⟩
  have HR := Lib.hid ((Row.new2 w (.cells #[.pointer p, .int .i64 n, .bool on, .int .i64 c, .int .i64 i, .bool hit] 221) 82 #[.bool false, .int .i64 0, .int .i64 0, .bool false]).only hO id)
  have HO := Lib.hid ((((Only.refl Nil w).alloc (.cells #[.pointer p, .int .i64 n, .bool on, .int .i64 c, .int .i64 i, .bool hit] 221)).alloc (.cells #[.bool false, .int .i64 0, .int .i64 0, .bool false] 82)).trans hO)
  clear hO
  have c0 : w1.cell? ⟨w.heap.size + 1, 0, none⟩ = some (.bool false) := HR.out.cell_ (i := 0) rfl
  have c1 : w1.cell? ⟨w.heap.size + 1, 1, none⟩ = some (.int .i64 0) := HR.out.cell_ (i := 1) rfl
  have c2 : w1.cell? ⟨w.heap.size + 1, 2, none⟩ = some (.int .i64 0) := HR.out.cell_ (i := 2) rfl
  have c3 : w1.cell? ⟨w.heap.size + 1, 3, none⟩ = some (.bool false) := HR.out.cell_ (i := 3) rfl
  have g0 : w1.frozen? ⟨w.heap.size + 1, 0, none⟩ = false := HR.out.frozen 0
  have g1 : w1.frozen? ⟨w.heap.size + 1, 1, none⟩ = false := HR.out.frozen 1
  have g2 : w1.frozen? ⟨w.heap.size + 1, 2, none⟩ = false := HR.out.frozen 2
  have g3 : w1.frozen? ⟨w.heap.size + 1, 3, none⟩ = false := HR.out.frozen 3
  go_wp2
  refine post_row (P := Tryz.prog) Tryz.results287 (t := 82) (g := w.heap.size + 1) (by rfl) (four HR.out _ _ _ _) Tryz.underlying82 rfl (by kernel_rfl) rfl ⟨rfl, four_only HO.out (.inl (by omega)) _ _ _ _⟩
end Go.Proofs.YtigdbokfapedcaaGreat
/- The cell of a task's permit. -/
namespace Go.Proofs.YtigdbokfapedcaaGreat
open Go.RowKit

theorem permit_any (n i : Int) (w : World) :
    Calls Tryz.prog 285 #[.agg #[.int .i64 n], .int .i64 i] w fun e w' => e = .returned (.int .i64 (cellI n 3 i)) ∧ Only Nil w w' := by
  go_enter Tryz.func285, Tryz.ntmps285
  go_wp2_with fail
  refine (cell_row n 3 i _ (by omega)).mono ?_
  rintro e w1 ⟨rfl, hO⟩
  have HO := Lib.hid hO
  clear hO
  go_wp2
  go_ret
  exact ⟨rfl, (Only.alloc (Only.refl _ _) _).trans HO.out⟩

end Go.Proofs.YtigdbokfapedcaaGreat
/- park.onPermit. -/
set_option linter.unusedVariables false
set_option linter.unusedSimpArgs false
namespace Go.Proofs.YtigdbokfapedcaaGreat
open Go.RowKit

theorem on_any (p A : Option Addr) (cp : Nat) (xs : List Int) (n i k c x y o : Int) (w : World) (h : Memo w p A cp xs) :
    Calls Tryz.prog 277 #[.func (.func 244) #[.pointer p] #[], .agg #[.int .i64 n], .int .i64 i, .agg #[.int .i64 k, .int .i64 c, .int .u32 x, .int .u32 y, .int .u32 o]] w fun e w' =>
      e = .returned (.tuple #[doVal xs k (pc n i) x y, .bool (doOk xs k (pc n i))]) ∧ Only (At A) w w' ∧ Memo w' p A cp (doNew xs k (pc n i) x y) := by
  have HH := Lib.hid h
  clear h
  go_enter Tryz.func277, Tryz.ntmps277
  go_wp2_with fail
  refine (permit_any n i _).mono ?_
  rintro e w1 ⟨rfl, hO⟩
  have R7 : Row w1 (w.heap.size + 1) 63 #[.int .i64 k, .int .i64 c, .int .u32 x, .int .u32 y, .int .u32 o] := ((Row.new2 w _ _ _).alloc _).only hO id
  have R8 : Row w1 (w.heap.size + 1 + 1) 63 #[.int .i64 0, .int .i64 0, .int .u32 0, .int .u32 0, .int .u32 0] := by
    refine Row.only ?_ hO id
    have e := Row.new2 (w.alloc (Obj.cells #[Value.int IntKind.i64 n] 49)) (Obj.cells #[Value.int IntKind.i64 k, Value.int IntKind.i64 c, Value.int IntKind.u32 x, Value.int IntKind.u32 y, Value.int IntKind.u32 o] 63) 63 #[.int .i64 0, .int .i64 0, .int .u32 0, .int .u32 0, .int .u32 0]
    simpa using e
  have HO1 : Hid (Only Nil w w1) := Lib.hid (((((Only.refl Nil w).alloc _).alloc _).alloc _).trans hO)
  have hM : Memo w1 p A cp xs := HH.out.keep HO1.out
  have c70 : w1.cell? ⟨w.heap.size + 1, 0, none⟩ = some (.int .i64 k) := R7.cell_ (i := 0) rfl
  have c71 : w1.cell? ⟨w.heap.size + 1, 1, none⟩ = some (.int .i64 c) := R7.cell_ (i := 1) rfl
  have c72 : w1.cell? ⟨w.heap.size + 1, 2, none⟩ = some (.int .u32 x) := R7.cell_ (i := 2) rfl
  have c73 : w1.cell? ⟨w.heap.size + 1, 3, none⟩ = some (.int .u32 y) := R7.cell_ (i := 3) rfl
  have c74 : w1.cell? ⟨w.heap.size + 1, 4, none⟩ = some (.int .u32 o) := R7.cell_ (i := 4) rfl
  have f70 : w1.frozen? ⟨w.heap.size + 1, 0, none⟩ = false := R7.frozen 0
  have f71 : w1.frozen? ⟨w.heap.size + 1, 1, none⟩ = false := R7.frozen 1
  have f72 : w1.frozen? ⟨w.heap.size + 1, 2, none⟩ = false := R7.frozen 2
  have f73 : w1.frozen? ⟨w.heap.size + 1, 3, none⟩ = false := R7.frozen 3
  have f74 : w1.frozen? ⟨w.heap.size + 1, 4, none⟩ = false := R7.frozen 4
  have HR7 := Lib.hid R7
  have HR8 := Lib.hid R8
  have HM := Lib.hid hM
  clear hO R7 R8 hM
  show _
  have hpc : cellI n 3 i = pc n i := rfl
  rw [hpc]
  clear hpc
  go_wp2_with fail
  have ha : ∀ j, At p j ∨ At A j → j < w.heap.size := HH.out.lt
  have e1 : Only (· = w.heap.size + 1) w1 (w1.setCell ⟨w.heap.size + 1, 1, none⟩ (.int .i64 (pc n i))) := (Only.refl (· = w.heap.size + 1) w1).setCell (p := ⟨w.heap.size + 1, 1, none⟩) (.inr rfl) _
  refine (do_memo p A cp xs k (pc n i) x y o _ (HM.out.far e1 (fun j hj h => by have := ha j hj; omega))).mono ?_
  obtain ⟨k', c', x', y', hv⟩ := doVal_form xs k (pc n i) x y
  rw [hv]
  rintro e w2 ⟨rfl, hO, hM⟩
  have hS : Only (At A) w w2 := ((HO1.out.mono (fun _ _ h => h.elim)).setCell (p := ⟨w.heap.size + 1, 1, none⟩) (.inl (by simp)) (.int .i64 (pc n i))).trans hO
  have R8 := (HR8.out.far (p := ⟨w.heap.size + 1, 1, none⟩) (by simp) (.int .i64 (pc n i))).only hO (fun h => by have := ha _ (.inr h); omega)
  have c80 : w2.cell? ⟨w.heap.size + 1 + 1, 0, none⟩ = some (.int .i64 0) := R8.cell_ (i := 0) rfl
  have c81 : w2.cell? ⟨w.heap.size + 1 + 1, 1, none⟩ = some (.int .i64 0) := R8.cell_ (i := 1) rfl
  have c82 : w2.cell? ⟨w.heap.size + 1 + 1, 2, none⟩ = some (.int .u32 0) := R8.cell_ (i := 2) rfl
  have c83 : w2.cell? ⟨w.heap.size + 1 + 1, 3, none⟩ = some (.int .u32 0) := R8.cell_ (i := 3) rfl
  have c84 : w2.cell? ⟨w.heap.size + 1 + 1, 4, none⟩ = some (.int .u32 0) := R8.cell_ (i := 4) rfl
  have f80 : w2.frozen? ⟨w.heap.size + 1 + 1, 0, none⟩ = false := R8.frozen 0
  have f81 : w2.frozen? ⟨w.heap.size + 1 + 1, 1, none⟩ = false := R8.frozen 1
  have f82 : w2.frozen? ⟨w.heap.size + 1 + 1, 2, none⟩ = false := R8.frozen 2
  have f83 : w2.frozen? ⟨w.heap.size + 1 + 1, 3, none⟩ = false := R8.frozen 3
  have f84 : w2.frozen? ⟨w.heap.size + 1 + 1, 4, none⟩ = false := R8.frozen 4
  have HR9 := Lib.hid R8
  have HS := Lib.hid hS
  have HM2 := Lib.hid hM
  have HA := Lib.hid ha
  generalize (if doOk xs k (pc n i) then wordAt xs (pc n i) else 0) = o' at hv
  generalize hok : doOk xs k (pc n i) = ok at hv
  have HV := Lib.hid hv
  have HOK := Lib.hid hok
  clear hO R8 hS hM c70 c71 c72 c73 c74 f70 f71 f72 f73 f74 e1 hv ha hok
  go_wp2
  refine post_row_tmp (P := Tryz.prog) Tryz.results277 (t := 63) (g := w.heap.size + 1 + 1) (cs := #[.int .i64 k', .int .i64 c', .int .u32 x', .int .u32 y', .int .u32 o']) rfl (five HR9.out _ _ _ _ _) Tryz.underlying63 rfl (by kernel_rfl) rfl ⟨?_, five_only HS.out (.inl (by omega)) _ _ _ _ _, ?_⟩
  · rw [HV.out, HOK.out]; rfl
  · exact HM2.out.far (five_only (Only.refl (· = w.heap.size + 1 + 1) w2) (.inr rfl) _ _ _ _ _) (fun j hj h => by have := HA.out j hj; omega)
end Go.Proofs.YtigdbokfapedcaaGreat
/- park.Give. -/
set_option linter.unusedVariables false
set_option linter.unusedSimpArgs false
namespace Go.Proofs.YtigdbokfapedcaaGreat
open Go.RowKit

theorem give_any (p A : Option Addr) (cp : Nat) (xs : List Int) (n i : Int) (w : World) (h : Memo w p A cp xs) :
    Calls Tryz.prog 288 #[.pointer p, .agg #[.int .i64 n], .int .i64 i] w fun e w' =>
      e = .returned (.tuple #[doVal xs 2 (pc n i) 1 0, .bool (there xs (pc n i))]) ∧ Only (At A) w w' ∧ Memo w' p A cp (st xs (pc n i) 1) := by
  have hok0 : doOk xs 2 (pc n i) = there xs (pc n i) := by simp [doOk, isKind]
  have hst : doNew xs 2 (pc n i) 1 0 = st xs (pc n i) 1 := by rw [doNew_st xs 2 _ 1 0 rfl]; rfl
  have HH := Lib.hid h
  have ha : ∀ j, At p j ∨ At A j → j < w.heap.size := HH.out.lt
  have HA := Lib.hid ha
  clear h ha
  go_enter Tryz.func288, Tryz.ntmps288
  go_wp2_with fail
  have e0 := ((Only.refl Nil w).alloc (Obj.cells #[Value.int IntKind.i64 n] 49)).alloc (Obj.cells #[Value.int IntKind.i64 0, Value.int IntKind.i64 0, Value.int IntKind.u32 0, Value.int IntKind.u32 0, Value.int IntKind.u32 0] 63)
  refine (on_any p A cp xs n i 2 0 1 0 0 _ (HH.out.keep e0)).mono ?_
  obtain ⟨k', c', x', y', hv⟩ := doVal_form xs 2 (pc n i) 1 0
  rw [hv, hok0, hst]
  rw [hok0] at hv
  rintro e w2 ⟨rfl, hO, hM⟩
  have hS : Only (At A) w w2 := (e0.mono (fun _ _ h => h.elim)).trans hO
  have R8 : Row w2 (w.heap.size + 1) 63 #[.int .i64 0, .int .i64 0, .int .u32 0, .int .u32 0, .int .u32 0] := (Row.new2 w _ _ _).only hO (fun h => by have := HA.out _ (.inr h); omega)
  have c80 : w2.cell? ⟨w.heap.size + 1, 0, none⟩ = some (.int .i64 0) := R8.cell_ (i := 0) rfl
  have c81 : w2.cell? ⟨w.heap.size + 1, 1, none⟩ = some (.int .i64 0) := R8.cell_ (i := 1) rfl
  have c82 : w2.cell? ⟨w.heap.size + 1, 2, none⟩ = some (.int .u32 0) := R8.cell_ (i := 2) rfl
  have c83 : w2.cell? ⟨w.heap.size + 1, 3, none⟩ = some (.int .u32 0) := R8.cell_ (i := 3) rfl
  have c84 : w2.cell? ⟨w.heap.size + 1, 4, none⟩ = some (.int .u32 0) := R8.cell_ (i := 4) rfl
  have f80 : w2.frozen? ⟨w.heap.size + 1, 0, none⟩ = false := R8.frozen 0
  have f81 : w2.frozen? ⟨w.heap.size + 1, 1, none⟩ = false := R8.frozen 1
  have f82 : w2.frozen? ⟨w.heap.size + 1, 2, none⟩ = false := R8.frozen 2
  have f83 : w2.frozen? ⟨w.heap.size + 1, 3, none⟩ = false := R8.frozen 3
  have f84 : w2.frozen? ⟨w.heap.size + 1, 4, none⟩ = false := R8.frozen 4
  have HR9 := Lib.hid R8
  have HS := Lib.hid hS
  have HM2 := Lib.hid hM
  generalize (if there xs (pc n i) then wordAt xs (pc n i) else 0) = o' at hv
  generalize hok : there xs (pc n i) = ok at hv
  have HV := Lib.hid hv
  have HOK := Lib.hid hok
  clear hO R8 hS hM e0 hv hok hok0 hst
  go_wp2
  refine post_row_tmp (P := Tryz.prog) Tryz.results288 (t := 63) (g := w.heap.size + 1) (cs := #[.int .i64 k', .int .i64 c', .int .u32 x', .int .u32 y', .int .u32 o']) rfl (five HR9.out _ _ _ _ _) Tryz.underlying63 rfl (by kernel_rfl) rfl ⟨?_, five_only HS.out (.inl (by omega)) _ _ _ _ _, ?_⟩
  · rw [HV.out, HOK.out]; rfl
  · exact HM2.out.far (five_only (Only.refl (· = w.heap.size + 1) w2) (.inr rfl) _ _ _ _ _) (fun j hj h => by have := HA.out j hj; omega)
end Go.Proofs.YtigdbokfapedcaaGreat
/- The cell of a task's watch. -/
namespace Go.Proofs.YtigdbokfapedcaaGreat
open Go.RowKit

theorem watch_any (n i : Int) (w : World) :
    Calls Tryz.prog 276 #[.agg #[.int .i64 n], .int .i64 i] w fun e w' => e = .returned (.int .i64 (cellI n 2 i)) ∧ Only Nil w w' := by
  go_enter Tryz.func276, Tryz.ntmps276
  go_wp2_with fail
  refine (cell_row n 2 i _ (by omega)).mono ?_
  rintro e w1 ⟨rfl, hO⟩
  have HO := Lib.hid hO
  clear hO
  go_wp2
  go_ret
  exact ⟨rfl, (Only.alloc (Only.refl _ _) _).trans HO.out⟩

end Go.Proofs.YtigdbokfapedcaaGreat
